package hist

import (
	"fmt"
	"math/rand"
	"slices"
	"testing"

	"catacomb/api"
	"catacomb/fs"
)

func begin(o api.Op) api.Event { return api.Event{Kind: api.Begin, Client: o.Client, Op: o} }

func end(client int, a api.Ans) api.Event { return api.Event{Kind: api.End, Client: client, Ans: a} }

func mk(client int, path string) api.Op {
	return api.Op{Kind: api.Make, Client: client, Path: path, N: api.File}
}

func look(client int, path string) api.Op {
	return api.Op{Kind: api.Look, Client: client, Path: path}
}

func file(ino int) api.Ans { return api.Ans{Ino: ino, Kind: api.File} }

// P30.1: which histories are right.
func TestP301Right(t *testing.T) {
	var many []api.Event
	for range 33 {
		many = append(many, begin(look(0, "/")), end(0, api.Ans{}))
	}
	other := begin(look(1, "/"))
	other.Op.Client = 2
	extra := begin(look(1, "/"))
	extra.Ans = file(3)
	for i, x := range []struct {
		l     []api.Event
		right bool
	}{
		{nil, true}, {many[:64], true}, {many[:65], false}, {many[1:3], false}, {[]api.Event{begin(look(0, "/")), begin(look(15, "/")), end(0, api.Ans{})}, true}, {[]api.Event{begin(look(16, "/"))}, false}, {[]api.Event{begin(look(-1, "/"))}, false}, {[]api.Event{begin(look(0, "/")), begin(look(0, "/"))}, false}, {[]api.Event{begin(look(0, "/")), end(1, api.Ans{})}, false},
		{[]api.Event{{Kind: 0}}, false}, {[]api.Event{{Kind: 3}}, false}, {[]api.Event{other}, false}, {[]api.Event{extra}, true}, {[]api.Event{begin(look(0, "/")), end(0, api.Ans{}), end(0, api.Ans{})}, false}, {[]api.Event{begin(look(0, "/")), end(16, api.Ans{})}, false}, {[]api.Event{begin(look(0, "/")), {Kind: api.End, Op: api.Op{Client: 9}}}, true},
	} {
		if Right(x.l) != x.right {
			t.Errorf("%d: %v", i, !x.right)
		}
	}
}

// P30.1: the examples, calls that have not ended, and the least order.
func TestP301Order(t *testing.T) {
	none := api.Ans{Err: api.ErrNone}
	for i, x := range []struct {
		l    []api.Event
		want []int
		ok   bool
	}{
		{[]api.Event{begin(mk(0, "/a")), end(0, file(2)), begin(look(1, "/a")), end(1, file(2))}, []int{0, 2}, true}, {[]api.Event{begin(mk(0, "/a")), begin(look(1, "/a")), end(1, none), end(0, file(2))}, []int{1, 0}, true}, {[]api.Event{begin(mk(0, "/a")), end(0, file(2)), begin(look(1, "/a")), end(1, none)}, nil, false},
		{nil, nil, true}, {[]api.Event{begin(mk(0, "/a"))}, nil, true}, {[]api.Event{begin(mk(0, "/a")), begin(look(1, "/a")), end(1, file(2))}, []int{0, 1}, true}, {[]api.Event{begin(mk(0, "/a")), begin(look(1, "/a")), end(1, none)}, []int{1}, true}, {[]api.Event{begin(look(0, "/")), begin(look(1, "/a")), end(1, none)}, []int{0, 1}, true},
		{[]api.Event{begin(look(1, "/a")), begin(mk(0, "/a")), end(1, none)}, []int{0}, true}, {[]api.Event{begin(mk(0, "/a")), begin(mk(1, "/b")), end(0, file(3)), end(1, file(2))}, []int{1, 0}, true}, {[]api.Event{begin(mk(0, "/a")), begin(mk(1, "/b")), end(0, file(3)), end(1, file(3))}, nil, false}, {[]api.Event{begin(mk(0, "/a")), begin(mk(1, "/b")), end(1, file(3))}, []int{0, 1}, true},
		{[]api.Event{begin(look(2, "/a")), begin(mk(0, "/a")), end(0, file(2)), begin(mk(1, "/b")), end(1, file(3)), end(2, none)}, []int{0, 1, 3}, true}, {[]api.Event{begin(look(2, "/b")), begin(mk(0, "/a")), end(0, file(2)), begin(mk(1, "/b")), end(1, file(3)), end(2, file(3))}, []int{1, 3, 0}, true}, {[]api.Event{begin(look(2, "/b")), begin(mk(0, "/a")), end(2, file(3)), end(0, file(2)), begin(mk(1, "/b")), end(1, file(3))}, nil, false},
	} {
		got, ok := Order(fs.New(), x.l)
		if ok != x.ok || !slices.Equal(got, x.want) || Fits(fs.New(), x.l) != x.ok {
			t.Errorf("%d: %v, %v", i, got, ok)
		}
	}
	f, _ := fs.Do(fs.New(), mk(0, "/a"))
	if got, ok := Order(f, []api.Event{begin(look(1, "/a")), end(1, file(2))}); !ok || !slices.Equal(got, []int{0}) {
		t.Error("from another file system on", got)
	}
	if Fits(f, []api.Event{begin(look(1, "/a")), end(1, none)}) {
		t.Error("from another file system on")
	}
}

// slow tries all orders by words, and tells the least one.
func slow(f api.FS, l []api.Event) ([]int, bool) {
	all := calls(l)
	var best []int
	found := false
	var try func(order []int, f api.FS)
	try = func(order []int, f api.FS) {
		left := 0
		for _, c := range all {
			if c.ended && !slices.Contains(order, c.place) {
				left++
			}
		}
		if left == 0 && (!found || slices.Compare(order, best) < 0) {
			best, found = slices.Clone(order), true
		}
		for _, c := range all {
			if slices.Contains(order, c.place) || slices.ContainsFunc(all, func(d call) bool { return d.ended && d.end < c.place && !slices.Contains(order, d.place) }) {
				continue
			}
			if g, a := fs.Do(f, c.op); !c.ended || sameAns(a, c.ans) {
				try(append(slices.Clone(order), c.place), g)
			}
		}
	}
	try(nil, f)
	return best, found
}

func someOp(r *rand.Rand, client int) api.Op {
	o := api.Op{Kind: 1 + r.Intn(17), Client: client, Path: "/" + string(rune('a'+r.Intn(2))), To: "/" + string(rune('a'+r.Intn(3))), N: 1 + r.Intn(2), M: 1 + r.Intn(3), Handle: r.Intn(2), Data: []byte{byte(r.Intn(2))}}
	switch r.Intn(5) {
	case 0:
		o.Kind, o.N = api.Make, 1
	case 1:
		o.Kind = api.Open
	}
	if o.Kind == api.Take || o.Kind == api.Peek {
		o.Path = "/"
	}
	return o
}

// some is what clients see that take turns, each call being done at once at some time.
func some(r *rand.Rand, clients int, calls int) []api.Event {
	var l []api.Event
	f := fs.New()
	state, ans, ops := make([]int, clients), make([]api.Ans, clients), make([]api.Op, clients)
	for calls > 0 || slices.ContainsFunc(state, func(s int) bool { return s > 0 }) {
		c := r.Intn(clients)
		switch {
		case state[c] == 0 && calls > 0:
			ops[c] = someOp(r, c)
			l = append(l, begin(ops[c]))
			calls--
		case state[c] == 1:
			f, ans[c] = fs.Do(f, ops[c])
		case state[c] == 2:
			l = append(l, end(c, ans[c]))
		default:
			continue
		}
		if state[c] = (state[c] + 1) % 3; calls == 0 && r.Intn(4) == 0 { // some calls never end
			break
		}
	}
	return l
}

// P30.1: orders by another hand, of histories that fit, and of such with another answer.
func TestP301Slow(t *testing.T) {
	r := rand.New(rand.NewSource(1))
	fits := [2]int{}
	for range 1500 {
		l := some(r, 1+r.Intn(4), 1+r.Intn(6))
		for i, e := range l {
			if e.Kind == api.End && r.Intn(6) == 0 {
				l[i].Ans = [...]api.Ans{{}, {Err: api.ErrNone}, file(2), file(3), {Err: api.ErrThere}}[r.Intn(5)]
			}
		}
		got, ok := Order(fs.New(), l)
		want, ok2 := slow(fs.New(), l)
		if ok != ok2 || !slices.Equal(got, want) {
			t.Fatal(l, got, want)
		}
		if ok {
			fits[1]++
		} else {
			fits[0]++
		}
	}
	if fits[0] < 100 || fits[1] < 100 {
		t.Error(fits)
	}
}

// check tells what is wrong with an order, by words.
func check(f api.FS, l []api.Event, order []int) string {
	all := calls(l)
	at := map[int]int{}
	for i, p := range order {
		k := slices.IndexFunc(all, func(c call) bool { return c.place == p })
		if _, twice := at[p]; twice || k < 0 {
			return fmt.Sprint("no call, or twice: ", p)
		}
		at[p] = i
		var a api.Ans
		if f, a = fs.Do(f, all[k].op); all[k].ended && !sameAns(a, all[k].ans) {
			return fmt.Sprint("another answer: ", p)
		}
	}
	for _, c := range all {
		i, has := at[c.place]
		if c.ended && !has {
			return fmt.Sprint("wanting: ", c.place)
		}
		for _, d := range all {
			if j, had := at[d.place]; has && had && c.ended && c.end < d.place && i > j {
				return fmt.Sprint(c.place, " is ahead of ", d.place)
			}
		}
	}
	return ""
}

// P30.2: what is told as an order is one. P30.3: however clients take turns, there is one.
func TestP302Order(t *testing.T) {
	r := rand.New(rand.NewSource(2))
	for range 400 {
		l := some(r, 1+r.Intn(6), 1+r.Intn(24))
		order, ok := Order(fs.New(), l)
		if !ok || !Right(l) {
			t.Fatal("none", l)
		}
		if wrong := check(fs.New(), l, order); wrong != "" {
			t.Fatal(wrong, l, order)
		}
	}
}

func TestP303Runs(t *testing.T) {
	r := rand.New(rand.NewSource(3))
	for range 150 {
		if l := some(r, 1+r.Intn(16), 20+r.Intn(12)); len(l) > 64 || !Fits(fs.New(), l) {
			t.Fatal("none", l)
		}
	}
	for range 300 { // no two calls meet
		var l []api.Event
		var want []int
		f := fs.New()
		for range 1 + r.Intn(30) {
			o := someOp(r, r.Intn(4))
			var a api.Ans
			f, a = fs.Do(f, o)
			want = append(want, len(l))
			l = append(l, begin(o), end(o.Client, a))
		}
		if got, ok := Order(fs.New(), l); !ok || !slices.Equal(got, want) {
			t.Fatal(got, want)
		}
		i := 2*r.Intn(len(want)) + 1
		for _, with := range []func(a *api.Ans){func(a *api.Ans) { a.Err++ }, func(a *api.Ans) { a.Ino++ }, func(a *api.Ans) { a.Kind++ }, func(a *api.Ans) { a.N++ }, func(a *api.Ans) { a.M++ }, func(a *api.Ans) { a.Names = append(slices.Clone(a.Names), "") }, func(a *api.Ans) { a.Data = append(slices.Clone(a.Data), 0) }} {
			m := slices.Clone(l)
			with(&m[i].Ans)
			if got, ok := Order(fs.New(), m); ok || len(got) > 0 {
				t.Fatal("another answer", m[i-1:i+1], got)
			}
		}
	}
}

// P30.4: what has an order has one of its beginning, with one more call, and with an End and a Begin in each other's place.
func TestP304Wider(t *testing.T) {
	r := rand.New(rand.NewSource(4))
	for range 200 {
		l := some(r, 2+r.Intn(4), 1+r.Intn(16))
		if !Fits(fs.New(), l[:r.Intn(len(l)+1)]) {
			t.Fatal("a beginning", l)
		}
		more := append(slices.Clone(l), begin(someOp(r, 15)))
		if !Fits(fs.New(), more) {
			t.Fatal("one more call", l)
		}
		for i := 1; i < len(l); i++ {
			if l[i-1].Kind == api.End && l[i].Kind == api.Begin && l[i-1].Client != l[i].Client {
				m := slices.Clone(l)
				m[i-1], m[i] = m[i], m[i-1]
				if !Fits(fs.New(), m) {
					t.Fatal("in each other's place", l, i)
				}
			}
		}
	}
}

// P30.1: file systems of alike trees, whose snapshots are unlike, are not taken for one another.
func TestP301Snapshots(t *testing.T) {
	f, _ := fs.Do(fs.New(), mk(0, "/f"))
	f, _ = fs.Do(f, api.Op{Kind: api.Open, Client: 2, Path: "/f"})
	take := func(client int) api.Op { return api.Op{Kind: api.Take, Client: client, Path: "/"} }
	l := []api.Event{
		begin(take(0)), begin(take(1)), begin(api.Op{Kind: api.Write, Client: 2, Data: []byte{7}}), end(0, api.Ans{N: 1}), end(1, api.Ans{N: 2}), end(2, api.Ans{Ino: 2, M: 1}),
		begin(api.Op{Kind: api.Peek, Client: 3, N: 2, Path: "/f"}), end(3, api.Ans{Ino: 2, Kind: 1, N: 1, M: 1, Data: []byte{7}}),
	}
	if got, ok := Order(f, l); !ok || !slices.Equal(got, []int{0, 2, 1, 6}) {
		t.Error(got, ok)
	}
	between := slices.Concat(l[:6], []api.Event{begin(mk(4, "/x")), end(4, file(3))}, l[6:]) // so that the snapshots are asked later
	if got, ok := Order(f, between); !ok || !slices.Equal(got, []int{0, 2, 1, 6, 8}) {
		t.Error(got, ok)
	}
	more := append(slices.Clone(between), begin(api.Op{Kind: api.Peek, Client: 3, N: 1, Path: "/f"}), end(3, api.Ans{Ino: 2, Kind: 1, N: 1}))
	if got, ok := Order(f, more); !ok || !slices.Equal(got, []int{0, 2, 1, 6, 8, 10}) {
		t.Error(got, ok)
	}
	more[11].Ans = api.Ans{Ino: 2, Kind: 1, N: 1, M: 1, Data: []byte{7}}
	if got, ok := Order(f, more); !ok || !slices.Equal(got, []int{2, 0, 1, 6, 8, 10}) {
		t.Error(got, ok)
	}
}

// P30.1: many calls at once, that fit nowhere, still end: what led nowhere is not tried again.
func TestP301Ends(t *testing.T) {
	f := fs.New()
	var l []api.Event
	for c := range 11 {
		f, _ = fs.Do(f, mk(c, fmt.Sprint("/", c)))
		f, _ = fs.Do(f, api.Op{Kind: api.Open, Client: c, Path: fmt.Sprint("/", c)})
		l = append(l, begin(api.Op{Kind: api.Write, Client: c, Data: []byte{1}}))
	}
	for c := 11; c < 15; c++ {
		l = append(l, begin(look(c, "/")))
	}
	l = append(l, begin(look(15, "/x")))
	for c := range 11 {
		l = append(l, end(c, api.Ans{Ino: 2 + c, M: 1}))
	}
	if Fits(f, append(slices.Clone(l), end(15, file(2)))) || !Fits(f, append(slices.Clone(l), end(15, api.Ans{Err: api.ErrNone}))) {
		t.Error("another answer")
	}
}
