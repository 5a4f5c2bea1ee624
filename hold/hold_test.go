package hold

import (
	"fmt"
	"math/rand"
	"slices"
	"testing"

	"catacomb/api"
	"catacomb/tree"
)

// grown has files 2 to 5 (`a` to `d`), and directory 6.
func grown() api.Tree {
	t := tree.New()
	for _, s := range []string{"a", "b", "c", "d"} {
		t, _, _ = tree.Add(t, 1, s, api.File)
		t, _ = tree.Put(t, t.Next-1, []byte(s))
	}
	t, _, _ = tree.Add(t, 1, "e", api.Dir)
	return t
}

func h(client int, handle int, ino int) api.Hold {
	return api.Hold{Client: client, Handle: handle, Ino: ino}
}

// without is a tree whose names of some files are gone.
func without(t api.Tree, names ...string) api.Tree {
	for _, s := range names {
		t, _, _ = tree.Un(t, 1, s)
	}
	return t
}

// P8.1: Open: which error is first, and where a hold goes.
func TestP81Open(t *testing.T) {
	g := without(grown(), "b")
	l := []api.Hold{h(1, 5, 3), h(2, 0, 2)}
	for i, x := range []struct {
		client, handle, ino int
		err                 api.Errno
		want                []api.Hold
	}{
		{-1, 5, 99, api.ErrArg, l}, {16, 5, 99, api.ErrArg, l}, {1, -1, 99, api.ErrArg, l}, {1, 100, 99, api.ErrArg, l},
		{1, 5, 99, api.ErrNone, l}, {1, 5, 3, api.ErrNone, l}, {1, 5, 6, api.ErrDir, l}, {0, 0, 1, api.ErrDir, l}, {1, 5, 2, api.ErrThere, l},
		{0, 99, 2, 0, []api.Hold{h(0, 99, 2), l[0], l[1]}}, {1, 4, 2, 0, []api.Hold{h(1, 4, 2), l[0], l[1]}}, {1, 6, 4, 0, []api.Hold{l[0], h(1, 6, 4), l[1]}}, {15, 0, 5, 0, []api.Hold{l[0], l[1], h(15, 0, 5)}},
	} {
		got, err := Open(g, l, x.client, x.handle, x.ino)
		if err != x.err || !slices.Equal(got, x.want) {
			t.Errorf("%d: %v, %d", i, got, err)
		}
	}
	var many []api.Hold
	for i := range 64 {
		many = append(many, h(i/10, i%10, 2))
	}
	if got, err := Open(g, many, 0, 10, 2); err != api.ErrMany || len(got) != 64 {
		t.Error(err)
	}
	if _, err := Open(g, many, 0, 0, 2); err != api.ErrThere {
		t.Error(err)
	}
	if got, err := Open(g, many[:63], 15, 10, 2); err != api.OK || len(got) != 64 || !Right(without(grown(), "b"), append(got[:63:63], h(15, 99, 3))) {
		t.Error(err)
	}
}

// P8.1: Close frees an orphan with its last hold, and nothing else.
func TestP81Close(t *testing.T) {
	g := without(grown(), "b")
	l := []api.Hold{h(1, 5, 3), h(1, 7, 2), h(2, 0, 3)}
	for _, k := range [][2]int{{1, 6}, {5, 1}, {-1, 0}, {2, 5}} {
		if u, m, err := Close(g, l, k[0], k[1]); err != api.ErrHold || !tree.Same(u, g) || !slices.Equal(m, l) {
			t.Error(k, err)
		}
	}
	u, m, err := Close(g, l, 1, 5)
	if err != api.OK || !tree.Same(u, g) || !slices.Equal(m, l[1:]) {
		t.Error(m, err)
	}
	u, m, err = Close(u, m, 2, 0)
	free, _ := tree.Free(g, 3)
	if err != api.OK || !tree.Same(u, free) || !slices.Equal(m, l[1:2]) {
		t.Error(m, err)
	}
	if v, m, err := Close(u, m, 1, 7); err != api.OK || !tree.Same(v, u) || len(m) != 0 {
		t.Error(m, err)
	}
	if !slices.Equal(l, []api.Hold{h(1, 5, 3), h(1, 7, 2), h(2, 0, 3)}) {
		t.Error("holds that were handed in are changed")
	}
}

// P8.1: Ino of any holds is the first one's; Orphans rise.
func TestP81Ino(t *testing.T) {
	l := []api.Hold{h(9, 9, 4), h(1, 2, 7), h(1, 2, 8), h(-5, 500, 6)}
	for k, want := range map[[2]int]int{{1, 2}: 7, {9, 9}: 4, {-5, 500}: 6, {2, 1}: 0} {
		ino, err := Ino(l, k[0], k[1])
		if ino != want || (err == api.OK) != (want > 0) || err != api.OK && err != api.ErrHold {
			t.Error(k, ino, err)
		}
	}
	if o := Orphans(without(grown(), "c", "a")); !slices.Equal(o, []int{2, 4}) {
		t.Error(o)
	}
	if o := Orphans(without(grown(), "e")); len(o) != 0 {
		t.Error(o)
	}
}

// P8.1: which holds are right.
func TestP81Right(t *testing.T) {
	g := without(grown(), "b")
	var many []api.Hold
	for i := range 65 {
		many = append(many, h(i/10, i%10, 3))
	}
	for i, x := range []struct {
		l     []api.Hold
		right bool
	}{
		{nil, false}, {[]api.Hold{h(0, 0, 3)}, true}, {[]api.Hold{h(0, 0, 2)}, false}, {[]api.Hold{h(0, 0, 2), h(15, 99, 3)}, true}, {[]api.Hold{h(16, 0, 3)}, false}, {[]api.Hold{h(-1, 0, 3)}, false},
		{[]api.Hold{h(0, 100, 3)}, false}, {[]api.Hold{h(0, -1, 3)}, false}, {[]api.Hold{h(1, 0, 3), h(0, 0, 3)}, false}, {[]api.Hold{h(1, 1, 3), h(1, 0, 3)}, false}, {[]api.Hold{h(1, 1, 3), h(1, 1, 3)}, false},
		{[]api.Hold{h(1, 9, 3), h(2, 0, 3)}, true}, {[]api.Hold{h(0, 0, 3), h(0, 1, 1)}, false}, {[]api.Hold{h(0, 0, 3), h(0, 1, 9)}, false}, {[]api.Hold{h(0, 0, 3), h(0, 1, 6)}, false}, {many, false}, {many[:64], true},
	} {
		if Right(g, x.l) != x.right {
			t.Errorf("%d: %v", i, !x.right)
		}
	}
	if !Right(grown(), nil) {
		t.Error("no holds")
	}
}

// world is a tree and holds that clients work on.
type world struct {
	t api.Tree
	l []api.Hold
}

// step does one thing; those that hold know nothing of names.
func (w world) step(r *rand.Rand) (world, bool) {
	client, handle := r.Intn(4), r.Intn(4)
	var err api.Errno
	switch r.Intn(8) {
	case 0, 1, 2:
		w.l, err = Open(w.t, w.l, client, handle, 1+r.Intn(w.t.Next))
	case 3, 4:
		w.t, w.l, err = Close(w.t, w.l, client, handle)
	case 5:
		w.t, _, err = tree.Add(w.t, 1, fmt.Sprint(r.Intn(6)), api.File)
	case 6:
		var ino int
		was := w.t
		w.t, ino, err = tree.Un(w.t, 1, fmt.Sprint(r.Intn(6)))
		if n, _ := tree.Get(was, ino); err == api.OK && n.Links == 1 && !held(w.l, ino) {
			w.t, _ = tree.Free(w.t, ino)
		}
	default:
		w.t, w.l = Gone(w.t, w.l, client)
	}
	return w, err == api.OK
}

func same(a world, b world) bool { return tree.Same(a.t, b.t) && slices.Equal(a.l, b.l) }

// P8.2: what becomes of right holds, and their tree, is right; what is refused is as it was.
func TestP82Right(t *testing.T) {
	r := rand.New(rand.NewSource(1))
	for range 200 {
		w := world{tree.New(), nil}
		for range 100 {
			v, ok := w.step(r)
			if !tree.Right(v.t) || !Right(v.t, v.l) {
				t.Fatal("not right", v)
			}
			if !ok && !same(v, w) {
				t.Fatal("refused, and changed")
			}
			w = v
		}
	}
}

// P8.3: what is held is there with its bytes; an orphan goes with its last hold, and nothing else does.
func TestP83Kept(t *testing.T) {
	r := rand.New(rand.NewSource(2))
	for range 200 {
		w := world{tree.New(), nil}
		for range 100 {
			v, _ := w.step(r)
			for _, k := range v.l {
				if _, ok := tree.Get(v.t, k.Ino); !ok {
					t.Fatal("a held file is gone")
				}
			}
			if len(v.l) < len(w.l) { // a close, or several: only orphans that nobody holds go
				for _, n := range w.t.Nodes {
					_, ok := tree.Get(v.t, n.Ino)
					if want := !(n.Kind == api.File && n.Links == 0 && !held(v.l, n.Ino)); ok != want {
						t.Fatal(n.Ino, ok)
					}
				}
			}
			w = v
		}
	}
	g := grown()
	l, _ := Open(g, nil, 3, 3, 2)
	g = without(g, "a")
	if n, ok := tree.Get(g, 2); !ok || string(n.Data) != "a" || !Right(g, l) {
		t.Error(n, ok)
	}
	if g, _, _ = Close(g, l, 3, 3); len(g.Nodes) != 5 {
		t.Error("an orphan is left")
	}
}

// P8.4: who is gone holds nothing, others hold what they did; the order of closing plays no part.
func TestP84Gone(t *testing.T) {
	r := rand.New(rand.NewSource(3))
	for range 300 {
		w := world{tree.New(), nil}
		for range 60 {
			w, _ = w.step(r)
		}
		client := r.Intn(5)
		v := world{}
		v.t, v.l = Gone(w.t, w.l, client)
		var others []api.Hold
		mine := []int{}
		for _, k := range w.l {
			if k.Client == client {
				mine = append(mine, k.Handle)
			} else {
				others = append(others, k)
				was, _ := tree.Get(w.t, k.Ino)
				if n, ok := tree.Get(v.t, k.Ino); !ok || n.Links != was.Links {
					t.Fatal("another one's file is gone")
				}
			}
		}
		if !slices.Equal(others, v.l) {
			t.Fatal(v.l)
		}
		r.Shuffle(len(mine), func(i, j int) { mine[i], mine[j] = mine[j], mine[i] })
		u := w
		for _, handle := range mine {
			u.t, u.l, _ = Close(u.t, u.l, client, handle)
		}
		if !same(u, v) {
			t.Fatal("another order leaves something else")
		}
	}
}

// P8.5: what is opened and closed leaves all as it was.
func TestP85Back(t *testing.T) {
	r := rand.New(rand.NewSource(4))
	for range 300 {
		w := world{tree.New(), nil}
		for range 60 {
			w, _ = w.step(r)
		}
		client, handle := r.Intn(5), r.Intn(5)
		l, err := Open(w.t, w.l, client, handle, 1+r.Intn(w.t.Next))
		if err != api.OK {
			continue
		}
		v := world{}
		v.t, v.l, err = Close(w.t, l, client, handle)
		if err != api.OK || !same(v, w) {
			t.Fatal(err, v, w)
		}
	}
}
