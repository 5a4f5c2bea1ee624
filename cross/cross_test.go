package cross

import (
	"fmt"
	"math"
	"math/rand"
	"reflect"
	"slices"
	"testing"

	"catacomb/api"
	"catacomb/name"
)

func m(from int, to int, kind int, id int, path string) api.Msg {
	return api.Msg{From: from, To: to, Kind: kind, Nums: []int{id}, Data: []byte(path)}
}

func told(l []api.Msg) string {
	s := ""
	for _, x := range l {
		s += fmt.Sprintf("%d>%d:%d %v %s;", x.From, x.To, x.Kind, x.Nums, x.Data)
	}
	return s
}

func text(v any) string { return fmt.Sprintf("%v", v) }

// started is boss 3 with one deed, 11, of groups 1 and 2, and one, 19, of group 0.
func started() api.Boss {
	b, _, _, _ := Start(NewBoss(3), []int{1, 2}, []string{"/a", "/b"})
	b, _, _, _ = Start(b, []int{0}, []string{"/c"})
	return b
}

// P19.1: what is begun, and errors, in order.
func TestP191Start(t *testing.T) {
	if text(NewBoss(3)) != text(api.Boss{Id: 3}) || text(NewPart(5)) != text(api.Part{Id: 5}) {
		t.Error("new ones")
	}
	b, id, out, err := Start(NewBoss(3), []int{1, 2, 3}, []string{"/a", "/", "/b"})
	want := api.Boss{Id: 3, Next: 1, Cases: []api.Case{{Deed: api.Deed{Id: 11, Groups: []int{1, 2, 3}, Paths: []string{"/a", "/", "/b"}}}}}
	if id != 11 || err != api.OK || text(b) != text(want) || told(out) != told([]api.Msg{m(3, 1, 1, 11, "/a"), m(3, 2, 1, 11, "/"), m(3, 3, 1, 11, "/b")}) {
		t.Error(b, id, out, err)
	}
	full, late := NewBoss(0), NewBoss(0)
	for range 16 {
		full, _, _, _ = Start(full, []int{1}, []string{"/"})
	}
	late.Next = 1 << 32
	for i, x := range []struct {
		b      api.Boss
		groups []int
		paths  []string
		err    api.Errno
	}{
		{full, nil, nil, api.ErrArg}, {full, []int{1}, nil, api.ErrArg}, {full, []int{1}, []string{"/", "x"}, api.ErrArg}, {full, []int{8}, []string{"x"}, api.ErrArg}, {full, []int{-1}, []string{"x"}, api.ErrArg}, {full, []int{2, 1}, []string{"x", "x"}, api.ErrArg}, {full, []int{2, 2}, []string{"x", "x"}, api.ErrArg},
		{full, []int{1, 2}, []string{"/", "x"}, api.ErrName}, {late, []int{1}, []string{""}, api.ErrName}, {full, []int{1}, []string{"/"}, api.ErrMany}, {late, []int{1}, []string{"/"}, api.ErrMany},
	} {
		c, id, out, err := Start(x.b, x.groups, x.paths)
		if err != x.err || id != 0 || len(out) != 0 || text(c) != text(x.b) {
			t.Errorf("%d: %d", i, err)
		}
	}
	late.Next--
	if c, id, _, err := Start(late, []int{1}, []string{"/"}); err != api.OK || id != 8<<32 || c.Next != 1<<32 {
		t.Error(id, err)
	}
}

// P19.1: what a boss does with a message.
func TestP191Tell(t *testing.T) {
	fresh := started()
	half, _ := Tell(fresh, m(2, 3, 2, 11, ""))
	sure, out := Tell(half, m(1, 3, 2, 11, ""))
	if text(half.Cases[0].Heard) != "[2]" || half.Cases[0].Sure || told(out) != told([]api.Msg{m(3, 1, 4, 11, ""), m(3, 2, 4, 11, "")}) || !sure.Cases[0].Sure || len(sure.Cases[0].Heard) != 0 {
		t.Error(half, sure, out)
	}
	one, _ := Tell(sure, m(2, 3, 5, 11, ""))
	for i, x := range []struct {
		b    api.Boss
		m    api.Msg
		want func(b *api.Boss)
		out  []api.Msg
	}{
		{fresh, m(1, 4, 3, 11, ""), nil, nil}, {fresh, m(1, 3, 1, 11, ""), nil, nil}, {fresh, m(1, 3, 4, 11, ""), nil, nil}, {fresh, m(1, 3, 6, 11, ""), nil, nil}, {fresh, m(1, 3, 0, 11, ""), nil, nil}, {fresh, m(1, 3, 8, 11, ""), nil, nil}, {fresh, api.Msg{From: 1, To: 3, Kind: 3}, nil, nil}, {fresh, api.Msg{From: 1, To: 3, Kind: 3, Nums: []int{11, 11}}, nil, nil},
		{fresh, m(1, 3, 2, 27, ""), nil, []api.Msg{m(3, 1, 6, 27, "")}}, {fresh, m(1, 3, 7, 27, ""), nil, []api.Msg{m(3, 1, 6, 27, "")}}, {fresh, m(1, 3, 3, 27, ""), nil, nil}, {fresh, m(1, 3, 5, 27, ""), nil, nil},
		{fresh, m(0, 3, 2, 11, ""), nil, nil}, {fresh, m(0, 3, 3, 11, ""), nil, nil}, {sure, m(0, 3, 7, 11, ""), nil, nil}, {fresh, m(1, 3, 7, 11, ""), nil, nil}, {fresh, m(1, 3, 5, 11, ""), nil, nil}, {half, m(2, 3, 2, 11, ""), nil, nil},
		{fresh, m(1, 3, 2, 11, ""), func(b *api.Boss) { b.Cases[0].Heard = []int{1} }, nil}, {half, m(1, 3, 3, 11, ""), func(b *api.Boss) { b.Cases = b.Cases[1:] }, []api.Msg{m(3, 1, 6, 11, ""), m(3, 2, 6, 11, "")}}, {fresh, m(0, 3, 2, 19, ""), func(b *api.Boss) { b.Cases[1].Sure = true }, []api.Msg{m(3, 0, 4, 19, "")}},
		{sure, m(1, 3, 2, 11, ""), nil, []api.Msg{m(3, 1, 4, 11, "")}}, {sure, m(2, 3, 7, 11, ""), nil, []api.Msg{m(3, 2, 4, 11, "")}}, {sure, m(1, 3, 3, 11, ""), nil, nil}, {sure, m(2, 3, 5, 11, ""), func(b *api.Boss) { b.Cases[0].Heard = []int{2} }, nil}, {one, m(2, 3, 5, 11, ""), nil, nil}, {one, m(1, 3, 5, 11, ""), func(b *api.Boss) { b.Cases = b.Cases[1:] }, nil},
	} {
		want := x.b
		want.Cases = slices.Clone(want.Cases)
		if x.want != nil {
			x.want(&want)
		}
		was := text(x.b)
		got, out := Tell(x.b, x.m)
		if text(got) != text(want) || told(out) != told(x.out) || text(x.b) != was {
			t.Errorf("%d: %v, %v", i, got, out)
		}
	}
	if l := Again(fresh); told(l) != told([]api.Msg{m(3, 1, 1, 11, "/a"), m(3, 2, 1, 11, "/b"), m(3, 0, 1, 19, "/c")}) {
		t.Error(l)
	}
	if l := Again(half); told(l) != told([]api.Msg{m(3, 1, 1, 11, "/a"), m(3, 0, 1, 19, "/c")}) {
		t.Error(l)
	}
	if l := Again(one); told(l) != told([]api.Msg{m(3, 1, 4, 11, ""), m(3, 0, 1, 19, "/c")}) {
		t.Error(l)
	}
	if b, l := Give(half, 11); len(b.Cases) != 1 || b.Cases[0].Deed.Id != 19 || told(l) != told([]api.Msg{m(3, 1, 6, 11, ""), m(3, 2, 6, 11, "")}) {
		t.Error(b, l)
	}
	for _, id := range []int{11, 12, -1} {
		if b, l := Give(sure, id); text(b) != text(sure) || len(l) != 0 {
			t.Error(id, b, l)
		}
	}
	if b := Back(sure); len(b.Cases) != 1 || b.Cases[0].Deed.Id != 11 || b.Next != 2 || b.Id != 3 || len(sure.Cases) != 2 {
		t.Error(b)
	}
}

// P19.1: what a part does with a message, asks, and has locked.
func TestP191Hear(t *testing.T) {
	p, out, did := Hear(NewPart(5), m(3, 5, 1, 11, "/a/b"))
	if text(p) != text(api.Part{Id: 5, Ready: []api.Ready{{Id: 11, Path: "/a/b"}}}) || told(out) != told([]api.Msg{m(5, 3, 2, 11, "")}) || did != 0 {
		t.Error(p, out, did)
	}
	both, _, _ := Hear(p, m(4, 5, 1, 12, "/a/c"))
	done, out, did := Hear(both, m(3, 5, 4, 11, ""))
	if text(done) != text(api.Part{Id: 5, Ready: []api.Ready{{Id: 12, Path: "/a/c"}}, Did: []int{11}}) || told(out) != told([]api.Msg{m(5, 3, 5, 11, "")}) || did != 11 {
		t.Error(done, out, did)
	}
	for i, x := range []struct {
		p   api.Part
		m   api.Msg
		out []api.Msg
	}{
		{p, m(3, 6, 6, 11, ""), nil}, {p, m(3, 5, 2, 11, ""), nil}, {p, m(3, 5, 0, 11, ""), nil}, {p, api.Msg{From: 3, To: 5, Kind: 6}, nil}, {p, api.Msg{From: 3, To: 5, Kind: 6, Nums: []int{11, 11}}, nil},
		{done, m(3, 5, 1, 11, "/a/c"), []api.Msg{m(5, 3, 5, 11, "")}}, {p, m(4, 5, 1, 11, "/x"), []api.Msg{m(5, 4, 2, 11, "")}}, {p, m(4, 5, 1, 12, "/a"), []api.Msg{m(5, 4, 3, 12, "")}}, {p, m(4, 5, 1, 12, "/a/b/c"), []api.Msg{m(5, 4, 3, 12, "")}}, {p, m(4, 5, 1, 12, "/a/b"), []api.Msg{m(5, 4, 3, 12, "")}}, {p, m(4, 5, 1, 12, "a"), []api.Msg{m(5, 4, 3, 12, "")}}, {p, m(4, 5, 1, 12, ""), []api.Msg{m(5, 4, 3, 12, "")}}, {p, m(4, 5, 1, 12, "/"), []api.Msg{m(5, 4, 3, 12, "")}},
		{done, m(3, 5, 4, 11, ""), []api.Msg{m(5, 3, 5, 11, "")}}, {p, m(3, 5, 4, 12, ""), nil}, {done, m(3, 5, 6, 11, ""), nil}, {p, m(3, 5, 6, 12, ""), nil},
	} {
		if got, out, did := Hear(x.p, x.m); text(got) != text(x.p) || told(out) != told(x.out) || did != 0 {
			t.Errorf("%d: %v, %v, %d", i, got, out, did)
		}
	}
	if q, out, did := Hear(both, m(3, 5, 6, 11, "")); text(q.Ready) != text(both.Ready[1:]) || len(q.Did)+len(out)+did != 0 || len(both.Ready) != 2 {
		t.Error(q, out, did)
	}
	if l := Ask(both); told(l) != told([]api.Msg{m(5, 3, 7, 11, ""), m(5, 4, 7, 12, "")}) || len(Ask(NewPart(1))) != 0 {
		t.Error(l)
	}
	for path, want := range map[string]bool{"/": true, "/a": true, "/a/b": true, "/a/b/x": true, "/a/bc": false, "/a/c": true, "/x": false, "": false, "a": false, "/a/b/": false} {
		if Locked(both, path) != want || Locked(NewPart(5), path) {
			t.Error(path)
		}
	}
	if _, _, did := Hear(NewPart(0), m(0, 0, 4, math.MinInt, "")); did != 0 {
		t.Error(did)
	}
}

// world is bosses, parts, and messages under way.
type world struct {
	bosses  []api.Boss
	parts   []api.Part
	wire    []api.Msg
	deeds   map[int]api.Deed
	refused map[int]bool
	did     map[int][]int // by group what it did, in order
}

func newWorld(n int) *world {
	w := &world{deeds: map[int]api.Deed{}, refused: map[int]bool{}, did: map[int][]int{}}
	for i := range n {
		w.bosses = append(w.bosses, NewBoss(i))
		w.parts = append(w.parts, NewPart(i))
	}
	return w
}

// start begins a deed of some groups, of one path for each.
func (w *world) start(r *rand.Rand, boss int) {
	var groups []int
	var paths []string
	for g := range w.parts {
		if r.Intn(2) == 0 {
			groups = append(groups, g)
			paths = append(paths, []string{"/a", "/a/b", "/b", "/", "/c"}[r.Intn(5)])
		}
	}
	b, id, out, err := Start(w.bosses[boss], groups, paths)
	if err == api.OK {
		w.deeds[id] = b.Cases[len(b.Cases)-1].Deed
	}
	w.bosses[boss] = b
	w.wire = append(w.wire, out...)
}

// settle notes what a boss gave up, or was refused.
func (w *world) settle(was api.Boss, b api.Boss) {
	for _, c := range was.Cases {
		if !c.Sure && !slices.ContainsFunc(b.Cases, func(d api.Case) bool { return d.Deed.Id == c.Deed.Id }) {
			w.refused[c.Deed.Id] = true
		}
	}
	w.bosses[b.Id] = b
}

func (w *world) deliver(i int, twin bool) string {
	x := w.wire[i]
	if !twin {
		w.wire = slices.Delete(slices.Clone(w.wire), i, i+1)
	}
	if x.Kind == 1 || x.Kind == 4 || x.Kind == 6 {
		p, out, did := Hear(w.parts[x.To], x)
		if did != 0 {
			if slices.Contains(w.did[x.To], did) {
				return "done twice"
			}
			w.did[x.To] = append(w.did[x.To], did)
		}
		w.parts[x.To] = p
		w.wire = append(w.wire, out...)
		return w.wrong()
	}
	b, out := Tell(w.bosses[x.To], x)
	w.settle(w.bosses[x.To], b)
	w.wire = append(w.wire, out...)
	return w.wrong()
}

func (w *world) step(r *rand.Rand) string {
	g := r.Intn(len(w.parts))
	switch k := r.Intn(40); {
	case k < 3:
		w.start(r, g)
	case k < 5:
		w.wire = append(w.wire, Again(w.bosses[g])...)
	case k < 7:
		w.wire = append(w.wire, Ask(w.parts[g])...)
	case k == 7:
		w.settle(w.bosses[g], Back(w.bosses[g]))
	case k == 8 && len(w.bosses[g].Cases) > 0:
		b, out := Give(w.bosses[g], w.bosses[g].Cases[0].Deed.Id)
		w.settle(w.bosses[g], b)
		w.wire = append(w.wire, out...)
	case len(w.wire) > 0:
		i := r.Intn(len(w.wire))
		if r.Intn(6) == 0 {
			w.wire = slices.Delete(slices.Clone(w.wire), i, i+1)
			return ""
		}
		return w.deliver(i, r.Intn(5) == 0)
	}
	return ""
}

// wrong tells what is broken of all or none, and apart.
func (w *world) wrong() string {
	for g, l := range w.did {
		for _, id := range l {
			if w.refused[id] {
				return fmt.Sprint("done, though refused: ", id)
			}
			for _, h := range w.deeds[id].Groups {
				ready := slices.ContainsFunc(w.parts[h].Ready, func(x api.Ready) bool { return x.Id == id })
				if !ready && !slices.Contains(w.did[h], id) {
					return fmt.Sprint("done by ", g, ", and ", h, " is not ready: ", id)
				}
			}
		}
		if !slices.Equal(l, w.parts[g].Did) {
			return "another row of what is done"
		}
	}
	for _, p := range w.parts {
		for i, a := range p.Ready {
			for _, b := range p.Ready[:i] {
				if name.Above(a.Path, b.Path) || name.Above(b.Path, a.Path) {
					return "ready for two that clash"
				}
			}
		}
	}
	return ""
}

func runs(t *testing.T, seed int64, each func(w *world)) {
	r := rand.New(rand.NewSource(seed))
	done := 0
	for range 80 {
		w := newWorld(2 + r.Intn(3))
		for range 400 {
			if wrong := w.step(r); wrong != "" {
				t.Fatal(wrong)
			}
		}
		if each != nil {
			each(w)
		}
		for _, l := range w.did {
			done += len(l)
		}
	}
	if done < 100 {
		t.Error("nothing happened", done)
	}
}

// P19.2: all groups of a deed do it, or none, once; what was refused is done by none.
func TestP192AllOrNone(t *testing.T) { runs(t, 1, nil) }

// P19.3: no part is ready for two deeds whose paths clash.
func TestP193Apart(t *testing.T) {
	runs(t, 2, nil)
	p, _, _ := Hear(NewPart(1), m(0, 1, 1, 8, "/a"))
	for _, path := range []string{"/", "/a", "/a/b"} {
		if q, out, _ := Hear(p, m(0, 1, 1, 16, path)); len(q.Ready) != 1 || out[0].Kind != 3 {
			t.Error(path)
		}
	}
}

// ends has messages come, and all be said again.
func (w *world) ends(t *testing.T) {
	for n := 0; ; n++ {
		for len(w.wire) > 0 {
			if wrong := w.deliver(0, false); wrong != "" {
				t.Fatal(wrong)
			}
		}
		for g := range w.parts {
			w.wire = append(w.wire, Again(w.bosses[g])...)
			w.wire = append(w.wire, Ask(w.parts[g])...)
		}
		if len(w.wire) == 0 {
			break
		}
		if n > 100 {
			t.Fatal("never ends")
		}
	}
}

// P19.4: once messages come, nothing is locked, and no boss has a case.
func TestP194Ends(t *testing.T) {
	runs(t, 3, func(w *world) {
		w.ends(t)
		for g, p := range w.parts {
			if len(p.Ready) > 0 || len(w.bosses[g].Cases) > 0 || Locked(p, "/") {
				t.Fatal(p, w.bosses[g])
			}
		}
		for id, d := range w.deeds {
			n := 0
			for _, g := range d.Groups {
				if slices.Contains(w.did[g], id) {
					n++
				}
			}
			if n != 0 && n != len(d.Groups) || (n == 0) != w.refused[id] {
				t.Fatal(id, n)
			}
		}
	})
}

// P19.5: a deed whose paths clash with none, and whose messages come, is done.
func TestP195Alone(t *testing.T) {
	r := rand.New(rand.NewSource(4))
	for range 200 {
		w := newWorld(4)
		w.start(r, r.Intn(4))
		for len(w.wire) > 0 {
			w.deliver(r.Intn(len(w.wire)), r.Intn(9) == 0)
		}
		for id, d := range w.deeds {
			for _, g := range d.Groups {
				if !slices.Equal(w.did[g], []int{id}) {
					t.Fatal(d, w.did)
				}
			}
		}
	}
}

// P19.6: of two deeds that clash in each group that both have, all groups that do both do the same one first.
func TestP196OneOrder(t *testing.T) {
	runs(t, 5, func(w *world) {
		path := func(id int, g int) string {
			d := w.deeds[id]
			return d.Paths[slices.Index(d.Groups, g)]
		}
		for a, da := range w.deeds {
			for b, db := range w.deeds {
				first, clashes := map[bool]bool{}, true
				for _, g := range da.Groups {
					if !slices.Contains(db.Groups, g) {
						continue
					}
					clashes = clashes && clash(path(a, g), path(b, g))
					i, j := slices.Index(w.did[g], a), slices.Index(w.did[g], b)
					if a != b && i >= 0 && j >= 0 {
						first[i < j] = true
					}
				}
				if clashes && len(first) > 1 {
					t.Fatal(da, db, w.did)
				}
			}
		}
	})
}

// P19.1: what was handed in stays as it was.
func TestP191Kept(t *testing.T) {
	groups, paths := []int{1, 2}, []string{"/a", "/b"}
	b, _, _, _ := Start(NewBoss(3), groups, paths)
	groups[0], paths[0] = 7, "x"
	if !reflect.DeepEqual(b.Cases[0].Deed, api.Deed{Id: 11, Groups: []int{1, 2}, Paths: []string{"/a", "/b"}}) {
		t.Error(b)
	}
}
