package shot

import (
	"math/rand"
	"reflect"
	"slices"
	"testing"

	"catacomb/api"
	"catacomb/tree"
)

func same(a api.Shots, b api.Shots) bool {
	return tree.Same(a.Now, b.Now) && a.Tick == b.Tick && slices.Equal(a.Since, b.Since) && slices.Equal(a.Taken, b.Taken) && a.Next == b.Next &&
		slices.EqualFunc(a.Pasts, b.Pasts, func(p, q api.Past) bool { return p.From == q.From && p.Till == q.Till && sameNode(p.Node, q.Node) })
}

func sameNodes(a []api.Node, b []api.Node) bool { return slices.EqualFunc(a, b, sameNode) }

// add is a tree with one thing more.
func add(t api.Tree, dir int, as string, kind int) api.Tree {
	t, _, _ = tree.Add(t, dir, as, kind)
	return t
}

func put(t api.Tree, ino int, data string) api.Tree {
	t, _ = tree.Put(t, ino, []byte(data))
	return t
}

func un(t api.Tree, dir int, as string) api.Tree {
	t, ino, _ := tree.Un(t, dir, as)
	t, _ = tree.Free(t, ino)
	return t
}

// below are a directory and all below it, as they are in a tree, by number.
func below(t api.Tree, ino int) []api.Node {
	var l []api.Node
	var all func(ino int)
	all = func(ino int) {
		n, _ := tree.Get(t, ino)
		l = append(l, n)
		for _, e := range n.Ents {
			all(e.Ino)
		}
	}
	all(ino)
	slices.SortFunc(l, func(a, b api.Node) int { return a.Ino - b.Ino })
	return slices.CompactFunc(l, sameNode)
}

// P10.1: the examples, and what is new.
func TestP101New(t *testing.T) {
	g := add(add(tree.New(), 1, "d", api.Dir), 2, "f", api.File)
	s := New(g)
	if !same(s, api.Shots{Now: g, Since: []int{0, 0, 0}, Next: 1}) || !Right(s) {
		t.Error(s)
	}
	s = New(tree.New())
	s, id, err := Take(s, 1)
	if id != 1 || err != api.OK || !reflect.DeepEqual(s.Taken, []api.Shot{{Id: 1, Ino: 1, At: 0}}) || s.Next != 2 {
		t.Error(id, err, s)
	}
	s = Put(s, add(s.Now, 1, "f", api.File))
	ino, l, err := At(s, 1)
	if ino != 1 || err != api.OK || !sameNodes(l, tree.New().Nodes) {
		t.Error(ino, l, err)
	}
	if u, id, err := Take(s, 2); id != 0 || err != api.ErrNot || !same(u, s) {
		t.Error(id, err)
	}
	if u, id, err := Take(s, 3); id != 0 || err != api.ErrNone || !same(u, s) {
		t.Error(id, err)
	}
	if u, err := Drop(s, 2); err != api.ErrShot || !same(u, s) {
		t.Error(err)
	}
	if ino, l, err := At(s, 2); ino != 0 || len(l) != 0 || err != api.ErrShot {
		t.Error(ino, l, err)
	}
}

// P10.1: Put, field by field.
func TestP101Put(t *testing.T) {
	g := add(add(tree.New(), 1, "f", api.File), 1, "g", api.File)
	s, _, _ := Take(New(g), 1)
	h := put(g, 2, "x")
	s = Put(s, h)
	want := api.Shots{Now: h, Tick: 1, Since: []int{0, 1, 0}, Pasts: []api.Past{{From: 0, Till: 1, Node: g.Nodes[1]}}, Taken: []api.Shot{{Id: 1, Ino: 1, At: 0}}, Next: 2}
	if !same(s, want) {
		t.Error(s)
	}
	i := put(h, 2, "y") // what no snapshot has is not kept
	s = Put(s, i)
	want.Now, want.Tick, want.Since = i, 2, []int{0, 2, 0}
	if !same(s, want) {
		t.Error(s)
	}
	s, _, _ = Take(s, 1)
	j := un(i, 1, "f")
	s = Put(s, j)
	want.Now, want.Tick, want.Since = j, 3, []int{3, 0}
	want.Pasts = append(want.Pasts, api.Past{From: 0, Till: 3, Node: i.Nodes[0]}, api.Past{From: 2, Till: 3, Node: i.Nodes[1]})
	want.Taken, want.Next = append(want.Taken, api.Shot{Id: 2, Ino: 1, At: 2}), 3
	if !same(s, want) || !Right(s) {
		t.Error(s)
	}
	if u := Put(s, j); !same(u, s) {
		t.Error("the same tree", u)
	}
	k := j
	k.Cookie += 5 // another tree of the same nodes
	if u := Put(s, k); u.Tick != 4 || !slices.Equal(u.Since, s.Since) || len(u.Pasts) != len(s.Pasts) {
		t.Error(u)
	}
}

// P10.1: limits of what is taken.
func TestP101Many(t *testing.T) {
	s := New(tree.New())
	for i := range 16 {
		var id int
		var err api.Errno
		if s, id, err = Take(s, 1); id != i+1 || err != api.OK {
			t.Fatal(i, id, err)
		}
	}
	for ino, want := range map[int]api.Errno{1: api.ErrMany, 2: api.ErrNone} {
		if u, id, err := Take(s, ino); id != 0 || err != want || !same(u, s) {
			t.Error(ino, id, err)
		}
	}
	s, _ = Drop(s, 7)
	if _, id, err := Take(s, 1); id != 17 || err != api.OK {
		t.Error(id, err)
	}
	s.Next = 1 << 40
	if _, id, err := Take(s, 1); id != 0 || err != api.ErrMany {
		t.Error(id, err)
	}
	s.Next = 1<<40 - 1
	if u, id, err := Take(s, 1); id != 1<<40-1 || err != api.OK || !Right(u) {
		t.Error(id, err)
	}
}

// P10.1: which shots are right.
func TestP101Right(t *testing.T) {
	make1 := func() api.Shots {
		s, _, _ := Take(New(add(add(tree.New(), 1, "d", api.Dir), 2, "f", api.File)), 2)
		s = Put(s, put(s.Now, 3, "x"))
		s, _, _ = Take(s, 1)
		s = Put(s, add(put(s.Now, 3, "y"), 1, "h", api.File))
		s.Pasts, s.Since, s.Taken = slices.Clone(s.Pasts), slices.Clone(s.Since), slices.Clone(s.Taken)
		return s
	}
	if s := make1(); !Right(s) || len(s.Pasts) != 3 || s.Tick != 2 {
		t.Fatal(s)
	}
	for i, with := range []func(s *api.Shots){
		func(s *api.Shots) { s.Now.Next = 1 }, func(s *api.Shots) { s.Tick = -1 }, func(s *api.Shots) { s.Tick = 1<<40 + 1 }, func(s *api.Shots) { s.Since = s.Since[:3] }, func(s *api.Shots) { s.Since[3] = 3 }, func(s *api.Shots) { s.Since[3] = -1 },
		func(s *api.Shots) { s.Taken[0].Id = 0 }, func(s *api.Shots) { s.Taken[0].Id = 2 }, func(s *api.Shots) { s.Next = 2 }, func(s *api.Shots) { s.Next = 1<<40 + 1 }, func(s *api.Shots) { s.Taken[1].At = 3 }, func(s *api.Shots) { s.Taken[0].At = -1 },
		func(s *api.Shots) { s.Taken[0].At, s.Taken[1].At = 1, 0 }, func(s *api.Shots) { s.Pasts[0].From = -1 }, func(s *api.Shots) { s.Pasts[0].From = 1 }, func(s *api.Shots) { s.Pasts[1].Till = 3 },
		func(s *api.Shots) { s.Pasts[1], s.Pasts[2] = s.Pasts[2], s.Pasts[1] }, func(s *api.Shots) { s.Pasts[2].Till = 1; s.Pasts[2].From = 0 }, func(s *api.Shots) { s.Pasts[2] = s.Pasts[1] },
		func(s *api.Shots) { s.Pasts[2].From = 0 }, func(s *api.Shots) { s.Since[2] = 1 }, func(s *api.Shots) { s.Since[0] = 0 }, func(s *api.Shots) { s.Pasts = s.Pasts[1:] }, func(s *api.Shots) { s.Taken = s.Taken[1:] }, func(s *api.Shots) { s.Taken[1].Ino = 3 }, func(s *api.Shots) { s.Taken[1].Ino = 9 },
		func(s *api.Shots) { s.Taken[1].Ino = 4 }, func(s *api.Shots) { s.Since[1] = 1 },
		func(s *api.Shots) { s.Taken = slices.Concat(s.Taken, slices.Repeat(s.Taken[1:], 15)) },
	} {
		s := make1()
		with(&s)
		if Right(s) {
			t.Errorf("%d is right: %v", i, s)
		}
	}
	s := make1()
	for i := range 14 {
		s.Taken = append(s.Taken, api.Shot{Id: 3 + i, Ino: 1, At: 2})
	}
	s.Next = 99
	if !Right(s) {
		t.Error("16 snapshots")
	}
	s.Taken = append(s.Taken, api.Shot{Id: 98, Ino: 1, At: 2})
	if Right(s) {
		t.Error("17 snapshots")
	}
	one, _, _ := Take(New(tree.New()), 1)
	one.Tick = 1 << 40
	if !Right(one) {
		t.Error("the last tick")
	}
	if one.Tick, one.Taken[0].At = 0, 1; Right(one) {
		t.Error("a snapshot of a later tick")
	}
	gone, _, _ := Take(New(add(tree.New(), 1, "f", api.File)), 1)
	gone = Put(gone, un(gone.Now, 1, "f"))
	if !Right(gone) || len(gone.Pasts) != 2 {
		t.Fatal(gone)
	}
	gone.Pasts[0], gone.Pasts[1] = gone.Pasts[1], gone.Pasts[0]
	if Right(gone) {
		t.Error("the first ones out of order")
	}
	gone.Pasts[0], gone.Pasts[1] = gone.Pasts[1], gone.Pasts[0]
	if gone.Pasts[1].Till = 2; Right(gone) {
		t.Error("a past till a later tick")
	}
	if z := New(tree.New()); Right(api.Shots{Now: z.Now, Since: z.Since}) {
		t.Error("Next 0")
	}
}

// world is shots, and what each snapshot had when it was taken.
type world struct {
	s   api.Shots
	had map[int][]api.Node
}

// step does one thing, and tells whether it was refused.
func (w world) step(r *rand.Rand) (api.Shots, bool) {
	s, g := w.s, w.s.Now
	ino := func() int { return 1 + r.Intn(g.Next) }
	as := string(rune('a' + r.Intn(5)))
	var err api.Errno
	switch r.Intn(9) {
	case 0:
		s, _, err = Take(s, ino())
	case 1:
		s, err = Drop(s, 1+r.Intn(s.Next))
	case 2:
		g, _, err = tree.Add(g, ino(), as, api.Dir)
	case 3:
		g, _, err = tree.Add(g, ino(), as, api.File)
	case 4, 5:
		g, err = tree.Put(g, ino(), []byte{byte(r.Intn(3))})
	case 6:
		g, err = tree.Ln(g, ino(), ino(), as)
	case 7:
		g, _, err = tree.Mv(g, ino(), as, ino(), string(rune('a'+r.Intn(5))))
	default:
		g = un(g, ino(), as)
	}
	return Put(s, g), err != api.OK
}

func walks(t *testing.T, seed int64, each func(r *rand.Rand, was api.Shots, now api.Shots, refused bool)) {
	r := rand.New(rand.NewSource(seed))
	for range 60 {
		w := world{s: New(tree.New())}
		for range 80 {
			s, refused := w.step(r)
			each(r, w.s, s, refused)
			w.s = s
		}
	}
}

// P10.2: what becomes of right shots is right; what is refused is as it was.
func TestP102Right(t *testing.T) {
	walks(t, 1, func(r *rand.Rand, was api.Shots, now api.Shots, refused bool) {
		if !Right(now) || !Right(was) {
			t.Fatal("not right", now)
		}
		if refused && !same(was, now) {
			t.Fatal("refused, and changed")
		}
	})
}

// P10.3: what a snapshot has stays, till it is dropped; when it is taken it has all as it is, and nothing else changes.
func TestP103Still(t *testing.T) {
	var had map[int][]api.Node
	walks(t, 2, func(r *rand.Rand, was api.Shots, now api.Shots, refused bool) {
		if len(was.Taken) == 0 && was.Tick == 0 {
			had = map[int][]api.Node{}
		}
		if now.Next > was.Next {
			x := now.Taken[len(now.Taken)-1]
			had[x.Id] = below(now.Now, x.Ino)
			now.Taken, now.Next = was.Taken, was.Next
			if !same(was, now) {
				t.Fatal("taking changes something")
			}
			return
		}
		for _, x := range now.Taken {
			ino, l, err := At(now, x.Id)
			if ino != x.Ino || err != api.OK || !sameNodes(l, had[x.Id]) {
				t.Fatal(x, l, had[x.Id])
			}
		}
	})
}

// P10.4: pasts are kept for snapshots alone; the order of dropping plays no part; a tree that is put again changes nothing.
func TestP104Spare(t *testing.T) {
	walks(t, 3, func(r *rand.Rand, was api.Shots, now api.Shots, refused bool) {
		if !same(Put(now, now.Now), now) {
			t.Fatal("put again")
		}
		if len(now.Taken) == 0 && len(now.Pasts) > 0 {
			t.Fatal("pasts of nothing")
		}
		var ids []int
		for _, x := range now.Taken {
			if r.Intn(2) == 0 {
				ids = append(ids, x.Id)
			}
		}
		drop := func() api.Shots {
			s := now
			for _, id := range ids {
				var err api.Errno
				if s, err = Drop(s, id); err != api.OK {
					t.Fatal(id, err)
				}
			}
			return s
		}
		a := drop()
		r.Shuffle(len(ids), func(i, j int) { ids[i], ids[j] = ids[j], ids[i] })
		if b := drop(); !same(a, b) || !Right(a) {
			t.Fatal("another order")
		}
	})
}
