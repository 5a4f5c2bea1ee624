package world

import (
	"bytes"
	"fmt"
	"math/rand"
	"slices"
	"testing"

	"catacomb/api"
	"catacomb/chunk"
	"catacomb/clock"
	"catacomb/fs"
	"catacomb/hist"
	"catacomb/lease"
	"catacomb/once"
	"catacomb/scrub"
	"catacomb/write"
)

// text is all of a world, nil and empty rows alike.
func text(w api.World) string { return fmt.Sprintf("%v", w) }

func must(t *testing.T, w api.World, l ...api.Turn) api.World {
	t.Helper()
	for i, x := range l {
		v, ok := Do(w, x)
		if !ok {
			t.Fatalf("%d: %v is refused", i, x)
		}
		w = v
	}
	return w
}

// refused are turns that are not done, and change nothing.
func refused(t *testing.T, w api.World, l ...api.Turn) {
	t.Helper()
	was := text(w)
	for i, x := range l {
		if v, ok := Do(w, x); ok || text(v) != was {
			t.Errorf("%d: %v is not refused", i, x)
		}
	}
}

func turn(kind int, user int) api.Turn { return api.Turn{Kind: kind, User: user} }

func number(kind int, n int) api.Turn { return api.Turn{Kind: kind, N: n} }

func asks(user int, o api.Op) api.Turn { return api.Turn{Kind: api.TurnAsk, User: user, Op: o} }

// call is a request that is asked, served and told.
func call(user int, o api.Op) []api.Turn {
	return []api.Turn{asks(user, o), turn(api.TurnServe, user), turn(api.TurnTell, user)}
}

func mk(path string) api.Op { return api.Op{Kind: api.Make, Path: path, N: api.File} }

func open(path string, handle int) api.Op { return api.Op{Kind: api.Open, Path: path, Handle: handle} }

func leases(user int, ino int, kind int, from int, to int, many int) api.Turn {
	return api.Turn{Kind: api.TurnLease, User: user, N: ino, M: kind, From: from, To: to, Many: many}
}

func writes(user int, ino int, from int, data string) api.Turn {
	return api.Turn{Kind: api.TurnWrite, User: user, N: ino, From: from, Data: []byte(data)}
}

// base has file 2, /f, that users 0 and 1 have open as handles 3 and 4, three servers, and clocks: the server's as it goes, user 0's slow, user 1's fast.
func base(t *testing.T) api.World {
	w := New(3, 3, []int{0, -1, 1})
	return must(t, w, slices.Concat(call(0, mk("/f")), call(0, open("/f", 3)), call(1, open("/f", 4)))...)
}

// P31.1: new worlds, and clocks.
func TestP311New(t *testing.T) {
	w := New(2, 3, []int{1, -1, 7, 1})
	if len(w.Users) != 2 || len(w.Disks) != 3 || w.Fast != 1 || w.Users[0].Fast != -1 || w.Users[1].Fast != 0 || !fs.Same(w.F, fs.New()) || w.Next != 0 || w.Real != 0 {
		t.Error(text(w))
	}
	w.Real = 12345
	for who, want := range map[int]int{-1: clock.Most(12345), 0: clock.Least(12345), 1: 12345, 2: 0, -2: 0} {
		if got := Clock(w, who); got != want {
			t.Error(who, got)
		}
	}
	if w = New(1, 1, nil); w.Fast != 0 || w.Users[0].Fast != 0 || Clock(w, -1) != 0 {
		t.Error(text(w))
	}
}

// P31.1: turns that are none, or of nobody.
func TestP311Nobody(t *testing.T) {
	w := base(t)
	refused(t, w, number(0, 1), number(17, 1), number(-1, 1))
	for kind := 1; kind <= 10; kind++ {
		if kind != api.TurnTime {
			refused(t, w, turn(kind, 3), turn(kind, -1))
		}
	}
	if v, ok := Do(w, api.Turn{Kind: api.TurnTime, User: 99, N: 1}); !ok || v.Real != 1 {
		t.Error("time has no user")
	}
	for _, x := range []api.Turn{{Kind: api.TurnStore, N: 2}, {Kind: api.TurnRot}, {Kind: api.TurnPower}, {Kind: api.TurnUp}, {Kind: api.TurnMend, N: 1}, {Kind: api.TurnMend, N: 4096}, {Kind: api.TurnTime, N: 1000}} {
		x.User = 99
		must(t, w, x)
	}
	if v, ok := Do(w, api.Turn{Kind: api.TurnSweep, User: -1}); !ok || text(v) != text(w) {
		t.Error("a sweep of nothing")
	}
}

// P31.1: requests: asked, served and told.
func TestP311Calls(t *testing.T) {
	w := New(2, 1, nil)
	o := mk("/a")
	o.Client = 9
	refused(t, w, turn(api.TurnServe, 1), turn(api.TurnTell, 1), asks(1, api.Op{}), asks(1, api.Op{Kind: 17}))
	a := must(t, w, asks(1, o))
	o.Client = 1
	if u := a.Users[1]; u.Seq != 1 || !u.Wait || fmt.Sprint(u.Op) != fmt.Sprint(o) || fmt.Sprint(a.Hist) != fmt.Sprint([]api.Event{{Kind: api.Begin, Client: 1, Op: o}}) || len(a.Did) != 0 {
		t.Error(text(a))
	}
	refused(t, a, asks(1, o), turn(api.TurnTell, 1))
	s := must(t, a, turn(api.TurnServe, 1))
	f, sess, ans := once.Do(w.F, nil, 1, 1, o)
	if !fs.Same(s.F, f) || fmt.Sprint(s.Sess) != fmt.Sprint(sess) || fmt.Sprint(s.Did) != fmt.Sprint([]api.Op{o}) || !s.Users[1].Wait || len(s.Hist) != 1 {
		t.Error(text(s))
	}
	if again := must(t, s, turn(api.TurnServe, 1)); text(again) != text(s) {
		t.Error("served twice", text(again))
	}
	d := must(t, s, turn(api.TurnTell, 1))
	if u := d.Users[1]; u.Wait || u.Seq != 1 || fmt.Sprint(d.Hist[1]) != fmt.Sprint(api.Event{Kind: api.End, Client: 1, Ans: ans}) || len(d.Hist) != 2 {
		t.Error(text(d))
	}
	refused(t, d, turn(api.TurnTell, 1), turn(api.TurnServe, 1))
	must(t, d, asks(1, api.Op{Kind: api.Look}), asks(0, api.Op{Kind: api.Drop}))
	if two := must(t, d, asks(1, o)); two.Users[1].Seq != 2 {
		t.Error(text(two))
	}
	d.Users[1].Seq = 1 << 40
	refused(t, d, asks(1, o))
	if len(w.Hist) != 0 || w.Users[1].Wait {
		t.Error("a world that was handed in is changed")
	}
}

// P31.1: who dies, and is fenced.
func TestP311Dies(t *testing.T) {
	w := base(t)
	w = must(t, w, leases(0, 2, api.Own, 0, 9, 5), writes(0, 2, 0, "ab"))
	refused(t, w, turn(api.TurnFence, 0), turn(api.TurnFence, 1))
	refused(t, must(t, w, asks(1, mk("/q")), turn(api.TurnServe, 1), turn(api.TurnDie, 1)), turn(api.TurnTell, 1))
	d := must(t, w, turn(api.TurnDie, 0))
	if u := d.Users[0]; !u.Dead || len(u.Mine)+len(u.Dirty) != 0 || len(d.Leases) != 1 {
		t.Error(text(d))
	}
	refused(t, d, turn(api.TurnDie, 0), asks(0, mk("/x")), leases(0, 3, 1, 0, 1, 1), turn(api.TurnGive, 0), writes(0, 2, 0, "x"), turn(api.TurnFlush, 0), turn(api.TurnFence, 0))
	d = must(t, d, number(api.TurnTime, 20))
	o := api.Op{Kind: api.Crash, Client: 0}
	g := must(t, d, turn(api.TurnFence, 0))
	f, a := fs.Do(d.F, o)
	if !fs.Same(g.F, f) || g.Users[0].Dead || len(g.F.Holds) != 1 || fmt.Sprint(g.Did[len(g.Did)-1]) != fmt.Sprint(o) || fmt.Sprint(g.Hist[len(g.Hist)-2:]) != fmt.Sprint([]api.Event{{Kind: api.Begin, Op: o}, {Kind: api.End, Ans: a}}) || len(g.Hist) != len(d.Hist)+2 {
		t.Error(text(g))
	}
	// one that died with a request under way: it may be served, and is told when it is fenced
	q := must(t, base(t), asks(0, mk("/g")), turn(api.TurnDie, 0))
	refused(t, q, turn(api.TurnTell, 0))
	one := must(t, q, turn(api.TurnFence, 0))
	two := must(t, q, turn(api.TurnServe, 0), turn(api.TurnFence, 0))
	if text(one) != text(two) || one.Users[0].Wait || len(one.Hist) != len(q.Hist)+3 || len(one.Did) != len(q.Did)+2 {
		t.Error(text(one))
	}
	// one whose request is barred is not fenced, unless it was served
	b := must(t, base(t), leases(1, 2, api.Share, 0, 1, 5), asks(0, api.Op{Kind: api.Cut, Handle: 3}), turn(api.TurnDie, 0))
	refused(t, b, turn(api.TurnFence, 0), turn(api.TurnServe, 0))
	c := must(t, base(t), asks(0, api.Op{Kind: api.Cut, Handle: 3}), turn(api.TurnServe, 0), leases(1, 2, api.Share, 0, 1, 5), turn(api.TurnDie, 0), turn(api.TurnFence, 0))
	if c.Users[0].Dead {
		t.Error(text(c))
	}
}

// P31.1: whose requests other users' leases bar.
func TestP311Barred(t *testing.T) {
	for i, x := range []struct {
		kind, handle, lease, of int
		barred                  bool
	}{
		{api.Read, 3, api.Share, 1, false}, {api.Read, 3, api.Own, 1, true}, {api.Write, 3, api.Share, 1, true}, {api.Write, 3, api.Own, 1, true}, {api.Cut, 3, api.Share, 1, true}, {api.Cut, 3, api.Own, 1, true}, {api.Write, 3, api.Own, 0, false}, {api.Read, 3, api.Own, 0, false},
		{api.Write, 9, api.Own, 1, false}, {api.Stat, 3, api.Own, 1, false}, {api.Close, 3, api.Own, 1, false}, {api.Open, 3, api.Own, 1, false},
	} {
		w := must(t, base(t), leases(x.of, 2, x.lease, 4000, 4001, 5), asks(0, api.Op{Kind: x.kind, Handle: x.handle, Path: "/f"}))
		if _, ok := Do(w, turn(api.TurnServe, 0)); ok == x.barred {
			t.Errorf("%d: %v", i, ok)
		}
		w = must(t, w, number(api.TurnTime, 30))
		must(t, w, turn(api.TurnServe, 0))
	}
	w := must(t, base(t), leases(1, 9, api.Own, 0, 1, 5), asks(0, api.Op{Kind: api.Write, Handle: 3}))
	must(t, w, turn(api.TurnServe, 0))
}

// P31.1: time goes by.
func TestP311Time(t *testing.T) {
	w := must(t, base(t), leases(0, 2, api.Own, 0, 9, 5))
	until := w.Leases[0].Until
	refused(t, w, number(api.TurnTime, 0), number(api.TurnTime, 1001), number(api.TurnTime, -1))
	if v := must(t, w, number(api.TurnTime, until-1)); len(v.Leases) != 1 || v.Real != until-1 || len(v.Users[0].Mine) != 1 {
		t.Error(text(v))
	}
	if v := must(t, w, number(api.TurnTime, until)); len(v.Leases) != 0 || len(v.Users[0].Mine) != 1 {
		t.Error(text(v))
	}
	w.Fast = 1 // the server's clock shows more
	if v := must(t, w, number(api.TurnTime, until-1)); len(v.Leases) != 0 {
		t.Error(text(v))
	}
	w.Real = 1<<30 - 5
	refused(t, w, number(api.TurnTime, 6))
	must(t, w, number(api.TurnTime, 5))
}

// P31.1: leases are had, refused and given back.
func TestP311Leases(t *testing.T) {
	w := must(t, base(t), number(api.TurnTime, 10))
	v := must(t, w, leases(0, 2, api.Own, 3, 9, 5))
	q := api.Lease{Client: 0, Ino: 2, Kind: api.Own, Span: api.Span{From: 3, To: 9}}
	l, _, _ := lease.Ask(nil, 10, q, 5)
	q.Until = clock.Least(10) + 5
	if !slices.Equal(v.Leases, l) || !slices.Equal(v.Users[0].Mine, []api.Lease{q}) {
		t.Error(v.Leases, v.Users[0].Mine)
	}
	refused(t, v, leases(1, 2, api.Share, 8, 10, 5), leases(1, 2, api.Own, 0, 4, 5), leases(1, 2, 3, 0, 1, 5), leases(1, 0, 1, 0, 1, 5), leases(1, 2, 1, 1, 1, 5), leases(1, 2, 1, 0, 1, 0), leases(1, 2, 1, 0, 1, 65))
	u := must(t, v, leases(0, 2, api.Share, 3, 9, 5), leases(0, 2, api.Own, 3, 8, 5), leases(0, 3, api.Own, 3, 9, 5), number(api.TurnTime, 1), leases(0, 2, api.Own, 3, 9, 7))
	var kinds []int
	for _, x := range u.Users[0].Mine {
		kinds = append(kinds, 100*x.Ino+10*x.Kind+x.Span.To)
	}
	if !slices.Equal(kinds, []int{219, 228, 329, 229}) || u.Users[0].Mine[3].Until != clock.Least(11)+7 || len(u.Leases) != 4 {
		t.Error(u.Users[0].Mine, u.Leases)
	}
	g := must(t, u, turn(api.TurnGive, 0)) // of node 0: nothing
	if text(g) != text(u) {
		t.Error(text(g))
	}
	g = must(t, u, api.Turn{Kind: api.TurnGive, N: 2})
	if len(g.Users[0].Mine) != 1 || g.Users[0].Mine[0].Ino != 3 || !slices.Equal(g.Leases, lease.Back(u.Leases, 0, 2)) {
		t.Error(text(g))
	}
	d := must(t, u, writes(0, 2, 3, "x"))
	refused(t, d, api.Turn{Kind: api.TurnGive, N: 2})
	must(t, d, api.Turn{Kind: api.TurnGive, N: 3})
}

// P31.1: what is written under a lease, by one's own clock, and written back.
func TestP311Writes(t *testing.T) {
	w := must(t, base(t), leases(0, 2, api.Own, 3, 9, 5), leases(0, 2, api.Share, 9, 20, 5), leases(0, 2, api.Own, 30, 5000, 5))
	refused(t, w, writes(0, 2, 3, ""), writes(0, 2, -1, "x"), writes(0, 2, 2, "xy"), writes(0, 2, 8, "xy"), writes(0, 2, 9, "x"), writes(0, 3, 3, "x"), writes(1, 2, 3, "x"), writes(0, 2, 4096, "x"), writes(0, 2, 4095, "xy"), writes(0, 2, 1<<40, "x"))
	v := must(t, w, writes(0, 2, 3, "abcdef"), writes(0, 2, 4, "X"), writes(0, 2, 4095, "x"))
	if want := write.Put(write.Put(nil, 2, 3, []byte("aXcdef")), 2, 4095, []byte("x")); fmt.Sprint(v.Users[0].Dirty) != fmt.Sprint(want) {
		t.Error(v.Users[0].Dirty)
	}
	w.Users[0].Fast = 0
	late := must(t, w, number(api.TurnTime, 4), writes(0, 2, 3, "a"))
	refused(t, must(t, w, number(api.TurnTime, 5)), writes(0, 2, 3, "a"))

	f := must(t, late, turn(api.TurnFlush, 0))
	o := api.Op{Kind: api.Write, N: 3, Handle: 3, Data: []byte("a")}
	g, a := fs.Do(late.F, o)
	if !fs.Same(f.F, g) || len(f.Users[0].Dirty) != 0 || fmt.Sprint(f.Did[len(f.Did)-1]) != fmt.Sprint(o) || fmt.Sprint(f.Hist[len(f.Hist)-2:]) != fmt.Sprint([]api.Event{{Kind: api.Begin, Op: o}, {Kind: api.End, Ans: a}}) {
		t.Error(text(f))
	}
	refused(t, f, turn(api.TurnFlush, 0))
	refused(t, must(t, late, asks(0, mk("/z"))), turn(api.TurnFlush, 0))
	refused(t, must(t, late, number(api.TurnTime, 20)), turn(api.TurnFlush, 0))
	refused(t, must(t, late, call(0, api.Op{Kind: api.Close, Handle: 3})...), turn(api.TurnFlush, 0))
	least := must(t, late, call(0, open("/f", 1))...)
	if x := must(t, least, turn(api.TurnFlush, 0)); x.Did[len(x.Did)-1].Handle != 1 {
		t.Error(text(x))
	}
	// another file, and another user, whose handles are less
	w = must(t, base(t), call(1, mk("/other"))...)
	w = must(t, w, call(1, open("/other", 0))...)
	w = must(t, w, leases(1, 2, api.Own, 0, 9, 5), writes(1, 2, 3, "b"), turn(api.TurnFlush, 1))
	if o := w.Did[len(w.Did)-1]; o.Client != 1 || o.Handle != 4 || string(w.F.S.Now.Nodes[1].Data) != "\x00\x00\x00b" {
		t.Error(o)
	}
	w = must(t, base(t), leases(0, 2, api.Own, 3, 9, 5), leases(0, 2, api.Own, 30, 5000, 5))
	full := must(t, late, call(1, api.Op{Kind: api.Limit, Path: "/", N: 9, M: 0})...)
	refused(t, full, turn(api.TurnFlush, 0)) // the quota is passed
	two := must(t, w, writes(0, 2, 3, "a"), writes(0, 2, 30, "b"), turn(api.TurnFlush, 0))
	if len(two.Users[0].Dirty) != 1 || two.Users[0].Dirty[0].From != 30 {
		t.Error(two.Users[0].Dirty)
	}
}

// filled is base, with so many bytes in /f.
func filled(t *testing.T, n int) api.World {
	data := make([]byte, n)
	for i := range data {
		data[i] = byte(i * 7)
	}
	return must(t, base(t), call(0, api.Op{Kind: api.Write, Handle: 3, Data: data})...)
}

// P31.1: files are laid into chunks, and loaded.
func TestP311Store(t *testing.T) {
	w := filled(t, 130)
	if b, err := Load(w, 2); err != api.ErrNone || len(b) != 0 {
		t.Error(err)
	}
	refused(t, w, number(api.TurnStore, 1), number(api.TurnStore, 3), number(api.TurnStore, 0))
	w = must(t, w, number(api.TurnPower, 1), number(api.TurnStore, 2))
	if w.Next != 3 || fmt.Sprint(w.Files) != "[{2 [0 1 2]}]" || fmt.Sprint(w.Chains) != "[{0 1 [0 2]} {1 1 [0 2]} {2 1 [0 2]}]" {
		t.Error(w.Next, w.Files, w.Chains)
	}
	for s, want := range [][]int{{0, 1, 2}, nil, {0, 1, 2}} {
		if got := chunk.Has(w.Disks[s]); !slices.Equal(got, want) || len(w.Disks[s].Loose) != 0 {
			t.Error(s, got)
		}
	}
	if c, err := chunk.Get(w.Disks[2], 2); err != api.OK || c.Ver != 1 || len(c.Data) != 2 {
		t.Error(c, err)
	}
	n := w.F.S.Now.Nodes[1].Data
	if b, err := Load(w, 2); err != api.OK || !bytes.Equal(b, n) {
		t.Error(b, err)
	}
	w = must(t, w, call(0, mk("/e"))...)
	w = must(t, w, call(0, mk("/d"))...)
	v := must(t, w, number(api.TurnStore, 4), number(api.TurnStore, 3), number(api.TurnStore, 2))
	if fmt.Sprint(v.Files) != "[{2 [3 4 5]} {3 []} {4 []}]" || len(v.Chains) != 6 || v.Next != 6 {
		t.Error(v.Files, v.Chains)
	}
	if b, err := Load(v, 3); err != api.OK || len(b) != 0 {
		t.Error(b, err)
	}
	down := must(t, w, number(api.TurnPower, 0), number(api.TurnPower, 2))
	refused(t, down, number(api.TurnStore, 2))
	must(t, down, number(api.TurnStore, 3))
	if b, err := Load(down, 2); err != api.ErrRot || len(b) != 0 {
		t.Error(b, err)
	}
	x := w
	x.Next = 198
	refused(t, x, number(api.TurnStore, 2))
	x.Next = 197
	x = must(t, x, number(api.TurnStore, 2))
	if x.Next != 200 {
		t.Error(x.Next)
	}
	refused(t, x, number(api.TurnStore, 2))
	must(t, x, number(api.TurnStore, 3))
}

// P31.1: what befalls servers, and how it is mended and swept.
func TestP311Servers(t *testing.T) {
	w := must(t, filled(t, 100), number(api.TurnStore, 2))
	for _, kind := range []int{api.TurnRot, api.TurnPower, api.TurnUp} {
		refused(t, w, number(kind, 3), number(kind, -1))
	}
	refused(t, w, number(api.TurnMend, 0), number(api.TurnMend, 4097), number(api.TurnMend, -1))
	r := must(t, w, api.Turn{Kind: api.TurnRot, N: 0, M: 1, From: 9})
	if _, err := chunk.Get(r.Disks[0], 1); err != api.ErrRot {
		t.Error(err)
	}
	if b, err := Load(r, 2); err != api.OK || len(b) != 100 {
		t.Error(err)
	}
	m := must(t, r, number(api.TurnMend, 30))
	if len(m.Jobs) != 1 || m.Jobs[0].Left != 7 {
		t.Error(m.Jobs)
	}
	if m = must(t, m, number(api.TurnMend, 7)); len(m.Jobs) != 0 || len(scrub.Intact(m.Disks, m.Chains[1])) != 3 {
		t.Error(m.Jobs)
	}
	loose := w
	loose.Disks = slices.Clone(w.Disks)
	loose.Disks[1], _ = chunk.Put(loose.Disks[1], chunk.New(9, 1, nil))
	loose.Disks[1], _ = chunk.Put(loose.Disks[1], chunk.New(8, 1, nil))
	p := must(t, loose, api.Turn{Kind: api.TurnPower, N: 1, M: 1})
	if u := must(t, p, number(api.TurnUp, 1)); !p.Disks[1].Down || u.Disks[1].Down || !slices.Equal(chunk.Has(u.Disks[1]), []int{0, 1, 9}) {
		t.Error(p.Disks[1])
	}
	s := must(t, w, number(api.TurnStore, 2), turn(api.TurnSweep, 0))
	if fmt.Sprint(s.Files) != "[{2 [2 3]}]" || fmt.Sprint(s.Chains) != "[{2 1 [0 1 2]} {3 1 [0 1 2]}]" || !slices.Equal(chunk.Has(s.Disks[0]), []int{2, 3}) || s.Next != 4 {
		t.Error(s.Files, s.Chains)
	}
}

// P31.1: Run does all turns, those that are refused too.
func TestP311Run(t *testing.T) {
	w := base(t)
	l := slices.Concat(call(0, mk("/x")), []api.Turn{turn(api.TurnTell, 0), number(99, 1)}, call(1, mk("/y")))
	v := w
	for _, x := range l {
		v, _ = Do(v, x)
	}
	if text(Run(w, l)) != text(v) || len(v.Did) != 5 {
		t.Error(v.Did)
	}
}

// P31.1: of one world two may come to be, and it is as it was.
func TestP311Apart(t *testing.T) {
	w := base(t)
	was := text(w)
	a, _ := Do(w, asks(0, mk("/a")))
	b, _ := Do(w, asks(1, mk("/b")))
	if a.Hist[6].Client != 0 || b.Hist[6].Client != 1 || text(w) != was {
		t.Error(a.Hist, b.Hist)
	}
}

// someTurn is any turn, often one that may be.
func someTurn(r *rand.Rand, w api.World) api.Turn {
	t := api.Turn{Kind: 1 + r.Intn(16), User: r.Intn(len(w.Users)), N: 2 + r.Intn(3), M: 1 + r.Intn(2), From: r.Intn(20), Many: 1 + r.Intn(40)}
	t.To = t.From + 1 + r.Intn(20)
	path := func() string { return "/" + string(rune('a'+r.Intn(3))) }
	t.Op = api.Op{Kind: 1 + r.Intn(16), Path: path(), To: path(), N: 1 + r.Intn(2), M: 1 + r.Intn(9), Handle: r.Intn(2), Data: []byte{byte(r.Intn(9)), 1}}
	if r.Intn(2) == 0 {
		t.Op.Kind = []int{api.Make, api.Open, api.Write, api.Read}[r.Intn(4)]
	}
	if t.Op.Kind == api.Make {
		t.Op.N = 1
	}
	switch k := r.Intn(20); {
	case k < 4:
		t.Kind = api.TurnAsk
	case k < 7:
		t.Kind = api.TurnServe
	case k < 9:
		t.Kind = api.TurnTell
	case k < 12:
		t.Kind = []int{api.TurnLease, api.TurnWrite, api.TurnFlush, api.TurnGive}[r.Intn(4)]
	}
	switch t.Kind {
	case api.TurnTime:
		t.N = 1 + r.Intn(30)
	case api.TurnRot:
		t.N, t.M, t.From = r.Intn(4), r.Intn(8), r.Intn(90)
	case api.TurnPower, api.TurnUp:
		t.N, t.M = r.Intn(4), r.Intn(2)
	case api.TurnMend:
		t.N = 1 + r.Intn(200)
	case api.TurnDie:
		if r.Intn(3) > 0 {
			t.Kind = api.TurnFence
		}
	case api.TurnWrite:
		for range r.Intn(5) {
			t.Data = append(t.Data, byte(r.Intn(256)))
		}
		if l := w.Users[t.User].Mine; len(l) > 0 {
			x := l[r.Intn(len(l))]
			t.N, t.From = x.Ino, x.Span.From+r.Intn(3)
		}
	}
	return t
}

// begins has all users have a file each open, and some bytes in it.
func begins(w api.World) api.World {
	for i := range w.Users {
		path := "/" + string(rune('a'+i%3))
		w = Run(w, slices.Concat(call(i, mk(path)), call(i, open(path, 0)), call(i, api.Op{Kind: api.Write, N: 5, Data: []byte{byte(i)}})))
	}
	return w
}

// walk has worlds befallen by what may be.
func walk(t *testing.T, seed int64, runs int, steps int, each func(r *rand.Rand, was api.World, x api.Turn, now api.World)) {
	t.Helper()
	r := rand.New(rand.NewSource(seed))
	done := map[int]int{}
	for range runs {
		var speeds []int
		for range r.Intn(6) {
			speeds = append(speeds, r.Intn(3)-1)
		}
		w := New(1+r.Intn(4), 1+r.Intn(3), speeds)
		if r.Intn(3) > 0 {
			w = begins(w)
		}
		for range steps {
			x := someTurn(r, w)
			looks := x.Kind == api.TurnSweep || x.Kind == api.TurnStore || r.Intn(20) == 0
			before := ""
			if looks {
				before = text(w)
			}
			v, ok := Do(w, x)
			if looks && text(w) != before {
				t.Fatal("a world that was handed in is changed", x)
			}
			if ok {
				done[x.Kind]++
			}
			each(r, w, x, v)
			w = v
		}
	}
	for kind := 1; kind <= 16; kind++ {
		if done[kind] == 0 {
			t.Error("never done:", kind)
		}
	}
}

// P31.2: F is what the operations that were done make, one by one; no request is done twice.
func TestP312Once(t *testing.T) {
	again := 0
	walk(t, 1, 60, 200, func(r *rand.Rand, was api.World, x api.Turn, now api.World) {
		if x.Kind == api.TurnServe {
			if _, done := session(was, x.User); done {
				if again++; text(was) != text(now) {
					t.Fatal("done twice")
				}
			} else if len(now.Did) > len(was.Did)+1 {
				t.Fatal("done twice")
			}
		}
		if r.Intn(40) > 0 {
			return
		}
		f := fs.New()
		for _, o := range now.Did {
			f, _ = fs.Do(f, o)
		}
		if !fs.Same(f, now.F) || !fs.Right(f) {
			t.Fatal("another file system")
		}
		own := map[int]int{} // what each user did by requests
		for _, o := range now.Did {
			if o.Kind != api.Crash {
				own[o.Client]++
			}
		}
		for _, s := range now.Sess {
			if own[s.Client] < s.Seq {
				t.Fatal("less done than asked")
			}
		}
		for i, u := range now.Users {
			if _, done := session(now, i); !done && u.Seq > 0 && !u.Wait {
				t.Fatal("told, and not done")
			}
		}
	})
	if again == 0 {
		t.Error("no request is served again")
	}
}

// P31.3: what clients saw has an order.
func TestP313Seen(t *testing.T) {
	checked := 0
	walk(t, 2, 150, 160, func(r *rand.Rand, was api.World, x api.Turn, now api.World) {
		if len(now.Hist) > 64 || len(now.Hist) == len(was.Hist) || r.Intn(10) > 0 {
			return
		}
		checked++
		if !hist.Right(now.Hist) || !hist.Fits(fs.New(), now.Hist) {
			t.Fatal(now.Hist)
		}
	})
	if checked < 100 {
		t.Error(checked)
	}
}

// P31.4: no two clients have, by their own clocks, leases of one node that meet, one of them Own.
func TestP314Alone(t *testing.T) {
	had := 0
	walk(t, 3, 200, 200, func(r *rand.Rand, was api.World, x api.Turn, now api.World) {
		for i, u := range now.Users {
			for j, v := range now.Users[:i] {
				for _, a := range u.Mine {
					for _, b := range v.Mine {
						if a.Until <= Clock(now, i) || b.Until <= Clock(now, j) || a.Ino != b.Ino {
							continue
						}
						had++
						if a.Span.From < b.Span.To && b.Span.From < a.Span.To && (a.Kind == api.Own || b.Kind == api.Own) {
							t.Fatal(i, j, a, b)
						}
					}
				}
			}
		}
	})
	if had == 0 {
		t.Error("nobody has anything")
	}
}

// P31.5: what a crashed client wrote back is, by file, a beginning of what it wrote; all else is lost.
func TestP315Beginning(t *testing.T) {
	r := rand.New(rand.NewSource(5))
	for range 300 {
		w := base(t)
		w = must(t, w, leases(0, 2, api.Own, 0, 64, 60))
		states := [][]byte{nil}
		for range r.Intn(12) {
			from, data := r.Intn(20), make([]byte, 1+r.Intn(5))
			r.Read(data)
			w = must(t, w, writes(0, 2, from, string(data)))
			next, _ := write.Lay(states[len(states)-1], from, data)
			states = append(states, next)
			if r.Intn(3) == 0 {
				w, _ = Do(w, turn(api.TurnFlush, 0))
			}
		}
		w = must(t, w, turn(api.TurnDie, 0))
		if len(w.Users[0].Dirty) != 0 {
			t.Fatal("not lost")
		}
		w = must(t, w, number(api.TurnTime, 200), turn(api.TurnFence, 0))
		data := w.F.S.Now.Nodes[1].Data
		if !slices.ContainsFunc(states, func(s []byte) bool { return bytes.Equal(s, data) }) {
			t.Fatal(data, states)
		}
	}
}

// P31.6: what was laid is loaded, so long as each chunk has an intact copy; once faults cease all are intact again.
func TestP316Kept(t *testing.T) {
	var laid1 map[int][]byte
	loaded := 0
	walk(t, 6, 80, 200, func(r *rand.Rand, was api.World, x api.Turn, now api.World) {
		if len(was.Files) == 0 {
			laid1 = map[int][]byte{}
		}
		if x.Kind == api.TurnStore && now.Next+len(now.Files) > was.Next+len(was.Files) {
			for _, n := range now.F.S.Now.Nodes {
				if n.Ino == x.N {
					laid1[x.N] = n.Data
				}
			}
		}
		whole := func(w api.World, ids []int) bool {
			for _, c := range w.Chains {
				if slices.Contains(ids, c.Id) && len(scrub.Intact(w.Disks, c)) == 0 {
					return false
				}
			}
			return true
		}
		for _, l := range now.Files {
			b, err := Load(now, l.Ino)
			if want := whole(now, l.Ids); want != (err == api.OK) || want && !bytes.Equal(b, laid1[l.Ino]) {
				t.Fatal(l, b, laid1[l.Ino], err)
			}
			loaded += len(b)
		}
		if r.Intn(50) > 0 {
			return
		}
		end := now
		for s := range end.Disks {
			end, _ = Do(end, number(api.TurnUp, s))
		}
		had := end
		for range 40 {
			end, _ = Do(end, number(api.TurnMend, 4096))
		}
		for i, c := range end.Chains {
			if len(scrub.Intact(had.Disks, had.Chains[i])) > 0 && len(scrub.Intact(end.Disks, c)) != len(c.Servers) {
				t.Fatal("not intact again", c)
			}
		}
	})
	if loaded == 0 {
		t.Error("nothing is laid")
	}
}

// P31.7: nothing that is named is swept, and nothing else is left, on servers that are up.
func TestP317Swept(t *testing.T) {
	swept := 0
	walk(t, 7, 80, 200, func(r *rand.Rand, was api.World, x api.Turn, now api.World) {
		if x.Kind != api.TurnSweep {
			return
		}
		named := map[int]bool{}
		for _, l := range now.Files {
			for _, id := range l.Ids {
				named[id] = true
			}
		}
		for s, d := range now.Disks {
			for _, id := range chunk.Has(was.Disks[s]) {
				if has := slices.Contains(chunk.Has(d), id); has != named[id] {
					t.Fatal(s, id, has)
				}
				swept++
			}
		}
		for _, c := range now.Chains {
			if !named[c.Id] {
				t.Fatal("a chain of nothing", c)
			}
		}
		if len(now.Chains) != len(named) {
			t.Fatal(now.Chains, named)
		}
	})
	if swept == 0 {
		t.Error("nothing is swept")
	}
}
