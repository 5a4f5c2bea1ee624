package fed

import (
	"fmt"
	"math/rand"
	"slices"
	"testing"

	"catacomb/api"
	"catacomb/fs"
	"catacomb/shard"
	"catacomb/tree"
)

func dir(path string) api.Op  { return api.Op{Kind: api.Make, Path: path, N: api.Dir} }
func file(path string) api.Op { return api.Op{Kind: api.Make, Path: path, N: api.File} }
func two(kind int, path string, to string) api.Op {
	return api.Op{Kind: kind, Path: path, To: to}
}

func after(t *testing.T, f api.Fed, l ...api.Op) api.Fed {
	t.Helper()
	for _, o := range l {
		g, a := Do(f, o)
		if a.Err != api.OK {
			t.Fatal(o, a.Err)
		}
		f = g
	}
	return f
}

func cut(t *testing.T, f api.Fed, path string, group int) api.Fed {
	t.Helper()
	g, err := Cut(f, path, group)
	if err != api.OK {
		t.Fatal(path, err)
	}
	return g
}

// base has / of group 4, /a (2) of 1, /a/b (3) of 6, /c (4) of 4, /a/f (5), /c/g (6), named /c/h too.
func base(t *testing.T) api.Fed {
	f := after(t, New(4), dir("/a"), dir("/a/b"), dir("/c"), file("/a/f"), file("/c/g"), two(api.Link, "/c/g", "/c/h"))
	return cut(t, cut(t, f, "/a", 1), "/a/b", 6)
}

// lots are the nodes' numbers, by group.
func lots(f api.Fed) string {
	s := ""
	for _, l := range f.Lots {
		s += fmt.Sprint(l.Group, ":")
		for _, n := range l.Nodes {
			s += fmt.Sprint(n.Ino, " ")
		}
	}
	return s
}

// P20.1: new ones, what is whole, spread and the same, and which are right.
func TestP201Right(t *testing.T) {
	f := New(3)
	if !Right(f) || !tree.Same(Whole(f), tree.New()) || lots(f) != "3:1 " || !slices.Equal(f.Pieces, shard.New(3)) {
		t.Error(f)
	}
	f = base(t)
	if !Right(f) || lots(f) != "1:2 5 4:1 4 6 6:3 " {
		t.Error(lots(f))
	}
	w := Whole(f)
	if !tree.Right(w) || len(w.Nodes) != 6 || w.Next != 7 || !Same(Spread(f.Pieces, w), f) {
		t.Error(w)
	}
	one := after(t, cut(t, after(t, New(4), dir("/x")), "/x", 4), file("/x/y"))
	if lots(one) != "4:1 2 3 " || len(one.Pieces) != 2 {
		t.Error(lots(one))
	}
	for i, with := range []func(f *api.Fed){
		func(f *api.Fed) { f.Next = 6 }, func(f *api.Fed) { f.Cookie = 1 }, func(f *api.Fed) { f.Pieces[0].Epoch = 0 }, func(f *api.Fed) { f.Pieces[2].Group = 5 }, func(f *api.Fed) { f.Lots = f.Lots[1:] }, func(f *api.Fed) { f.Lots[0], f.Lots[1] = f.Lots[1], f.Lots[0] }, func(f *api.Fed) { f.Lots = append(f.Lots, api.Lot{Group: 7}) },
		func(f *api.Fed) { f.Pieces[2].Path = "/a/x" }, func(f *api.Fed) { f.Pieces = append(f.Pieces, api.Piece{Path: "/c/g", Group: 4, Epoch: 1}) }, func(f *api.Fed) { f.Lots[0].Nodes[0], f.Lots[0].Nodes[1] = f.Lots[0].Nodes[1], f.Lots[0].Nodes[0] }, func(f *api.Fed) { f.Lots[0].Nodes[1].Data = []byte{1}; f.Lots[0].Group = 0 },
		func(f *api.Fed) {
			f.Lots[1].Nodes = append(f.Lots[1].Nodes, api.Node{Ino: 7, Kind: api.File})
			f.Next = 8
		},
	} {
		g := base(t)
		g.Pieces, g.Lots = slices.Clone(g.Pieces), slices.Clone(g.Lots)
		for i := range g.Lots {
			g.Lots[i].Nodes = slices.Clone(g.Lots[i].Nodes)
		}
		with(&g)
		if Right(g) || Same(f, g) || Same(g, f) || !Same(g, g) {
			t.Errorf("%d: %v", i, g)
		}
	}
	if Right(api.Fed{}) {
		t.Error("nothing")
	}
	x := cut(t, after(t, New(4), dir("/x"), file("/y"), two(api.Link, "/y", "/z")), "/x", 1) // a file of two pieces
	w, _, _ = tree.Mv(Whole(x), 1, "z", 2, "z")
	if Right(Spread(x.Pieces, w)) {
		t.Error("a file of two pieces")
	}
}

// P20.1: answers and errors, in order.
func TestP201Do(t *testing.T) {
	f := base(t)
	for i, x := range []struct {
		o api.Op
		a api.Ans
	}{
		{api.Op{Kind: api.Look, Path: "/", Client: 16}, api.Ans{Err: api.ErrArg}}, {api.Op{Kind: api.Look, Path: "/", Client: -1}, api.Ans{Err: api.ErrArg}}, {api.Op{Kind: 0, Path: "/"}, api.Ans{Err: api.ErrArg}}, {api.Op{Kind: api.Open, Path: "/a/f"}, api.Ans{Err: api.ErrArg}}, {api.Op{Kind: api.Limit, Path: "/a/f"}, api.Ans{Err: api.ErrArg}}, {api.Op{Kind: -1}, api.Ans{Err: api.ErrArg}},
		{api.Op{Kind: api.Look, Path: "/a/b", Client: 15}, api.Ans{Ino: 3, Kind: 2}}, {api.Op{Kind: api.Stat, Path: "/c/g"}, api.Ans{Ino: 6, Kind: 1, N: 2}}, {api.Op{Kind: api.Stat, Path: "/"}, api.Ans{Ino: 1, Kind: 2, M: 2}}, {api.Op{Kind: api.List, Path: "/a", M: 1}, api.Ans{Names: []string{"b"}, N: 3}}, {api.Op{Kind: api.List, Path: "/a/f", M: 1}, api.Ans{Err: api.ErrNot}}, {api.Op{Kind: api.List, Path: "/a/f"}, api.Ans{Err: api.ErrArg}},
		{dir("/a/b/x"), api.Ans{Ino: 7, Kind: 2}}, {file("/x/y"), api.Ans{Err: api.ErrNone}}, {file("/"), api.Ans{Err: api.ErrName}}, {two(api.Link, "/a/f", "/a/x"), api.Ans{Ino: 5}}, {two(api.Link, "/a/f", "/x"), api.Ans{Err: api.ErrCross}}, {two(api.Link, "/a/f", "/a/b/x"), api.Ans{Err: api.ErrCross}}, {two(api.Link, "/c/g", "/x"), api.Ans{Ino: 6}}, {two(api.Link, "/c/g", "/a"), api.Ans{Err: api.ErrThere}},
		{two(api.Unlink, "/a", ""), api.Ans{Err: api.ErrPiece}}, {two(api.Unlink, "/a/b", ""), api.Ans{Err: api.ErrPiece}}, {two(api.Unlink, "/", ""), api.Ans{Err: api.ErrName}}, {two(api.Unlink, "", ""), api.Ans{Err: api.ErrName}}, {two(api.Unlink, "/a/f", ""), api.Ans{Ino: 5}}, {two(api.Unlink, "/c", ""), api.Ans{Err: api.ErrLeft}}, {two(api.Unlink, "/c/h", ""), api.Ans{Ino: 6}},
		{two(api.Rename, "/a", "/x"), api.Ans{Err: api.ErrPiece}}, {two(api.Rename, "/a/b", "/a/b/x"), api.Ans{Err: api.ErrPiece}}, {two(api.Rename, "/c", "/a"), api.Ans{Err: api.ErrPiece}}, {two(api.Rename, "/c", "/a/b"), api.Ans{Err: api.ErrPiece}}, {two(api.Rename, "/x", "/a"), api.Ans{Err: api.ErrNone}}, {two(api.Rename, "/a", "/"), api.Ans{Err: api.ErrName}}, {two(api.Rename, "/a", "x"), api.Ans{Err: api.ErrName}}, {two(api.Rename, "/", "/a"), api.Ans{Err: api.ErrName}}, {two(api.Rename, "/a", "/y/x"), api.Ans{Err: api.ErrPiece}},
		{two(api.Rename, "/c", "/a/x"), api.Ans{Ino: 4}}, {two(api.Rename, "/a/f", "/c/f"), api.Ans{Ino: 5}}, {two(api.Rename, "/a/f", "/c/g"), api.Ans{Ino: 5}}, {two(api.Rename, "/c/g", "/a/b/g"), api.Ans{Err: api.ErrCross}}, {two(api.Rename, "/c/g", "/c/h"), api.Ans{Ino: 6}}, {two(api.Rename, "/c", "/c/x"), api.Ans{Err: api.ErrLoop}},
	} {
		g, a := Do(f, x.o)
		if fmt.Sprint(a) != fmt.Sprint(x.a) || !Right(g) || a.Err != api.OK && !Same(f, g) || !Same(f, base(t)) {
			t.Errorf("%d: %v, %v", i, x.o, a)
		}
	}
	if g := after(t, f, two(api.Rename, "/c", "/a/b/x")); lots(g) != "1:2 5 4:1 6:3 4 6 " {
		t.Error("what was moved lies with the other group", lots(g))
	}
	if g := after(t, f, two(api.Unlink, "/c/g", ""), two(api.Unlink, "/c/h", "")); lots(g) != "1:2 5 4:1 4 6:3 " {
		t.Error("a file of no name is freed", lots(g))
	}
}

// P20.1: the groups that are asked.
func TestP201Asks(t *testing.T) {
	f := base(t)
	for i, x := range []struct {
		o    api.Op
		want []int
	}{
		{api.Op{Kind: api.Look, Path: "/"}, []int{4}}, {api.Op{Kind: api.Look, Path: "/c/g"}, []int{4}}, {api.Op{Kind: api.Look, Path: "/a"}, []int{1, 4}}, {api.Op{Kind: api.Look, Path: "/a/b/z"}, []int{1, 4, 6}}, {api.Op{Kind: api.Look, Path: "/a/b/z/"}, []int{4}}, {api.Op{Kind: api.Look, Path: "/c", To: "/a"}, []int{4}},
		{two(api.Link, "/c", "/a"), []int{1, 4}}, {two(api.Rename, "/a/b", "/c"), []int{1, 4, 6}}, {two(api.Rename, "", "/a/b"), []int{1, 4, 6}}, {two(api.Unlink, "/c", "/a"), []int{4}}, {two(api.Rename, "", ""), []int{4}}, {api.Op{Path: "/a"}, []int{1, 4}},
	} {
		if l := Asks(f, x.o); !slices.Equal(l, x.want) {
			t.Errorf("%d: %v", i, l)
		}
	}
}

// P20.1: cutting, joining and moving pieces.
func TestP201Pieces(t *testing.T) {
	f := base(t)
	l := after(t, f, two(api.Link, "/c/g", "/k"))
	for i, x := range []struct {
		do   func(f api.Fed) (api.Fed, api.Errno)
		f    api.Fed
		err  api.Errno
		lots string
	}{
		{func(f api.Fed) (api.Fed, api.Errno) { return Cut(f, "c", 9) }, f, api.ErrName, ""}, {func(f api.Fed) (api.Fed, api.Errno) { return Cut(f, "/x", 9) }, f, api.ErrNone, ""}, {func(f api.Fed) (api.Fed, api.Errno) { return Cut(f, "/a/f", 9) }, f, api.ErrNot, ""}, {func(f api.Fed) (api.Fed, api.Errno) { return Cut(f, "/a", 9) }, f, api.ErrArg, ""}, {func(f api.Fed) (api.Fed, api.Errno) { return Cut(f, "/a", 1) }, f, api.ErrThere, ""},
		{func(f api.Fed) (api.Fed, api.Errno) { return Cut(f, "/c", 1) }, l, api.ErrCross, ""}, {func(f api.Fed) (api.Fed, api.Errno) { return Cut(f, "/c", 4) }, l, api.ErrCross, ""}, {func(f api.Fed) (api.Fed, api.Errno) { return Cut(f, "/c", 0) }, f, 0, "0:4 6 1:2 5 4:1 6:3 "}, {func(f api.Fed) (api.Fed, api.Errno) { return Cut(f, "/c", 1) }, f, 0, "1:2 4 5 6 4:1 6:3 "},
		{func(f api.Fed) (api.Fed, api.Errno) { return Join(f, "c") }, f, api.ErrName, ""}, {func(f api.Fed) (api.Fed, api.Errno) { return Join(f, "/c") }, f, api.ErrPiece, ""}, {func(f api.Fed) (api.Fed, api.Errno) { return Join(f, "/") }, f, api.ErrPiece, ""}, {func(f api.Fed) (api.Fed, api.Errno) { return Join(f, "/a") }, f, 0, "4:1 2 4 5 6 6:3 "}, {func(f api.Fed) (api.Fed, api.Errno) { return Join(f, "/a/b") }, f, 0, "1:2 3 5 4:1 4 6 "},
		{func(f api.Fed) (api.Fed, api.Errno) { return Move(f, "/a", 8) }, f, api.ErrArg, ""}, {func(f api.Fed) (api.Fed, api.Errno) { return Move(f, "/c", 1) }, f, api.ErrPiece, ""}, {func(f api.Fed) (api.Fed, api.Errno) { return Move(f, "/", 6) }, f, 0, "1:2 5 6:1 3 4 6 "}, {func(f api.Fed) (api.Fed, api.Errno) { return Move(f, "/a", 1) }, f, 0, lots(f)},
	} {
		g, err := x.do(x.f)
		if err != x.err || err != api.OK && !Same(g, x.f) || err == api.OK && lots(g) != x.lots || !Right(g) {
			t.Errorf("%d: %d, %s", i, err, lots(g))
		}
	}
	if g, _ := Cut(f, "/c", 0); !slices.Equal(g.Pieces, []api.Piece{{Path: "/", Group: 4, Epoch: 3}, {Path: "/a", Group: 1, Epoch: 3}, {Path: "/a/b", Group: 6, Epoch: 3}, {Path: "/c", Group: 0, Epoch: 3}}) {
		t.Error(g.Pieces)
	}
}

func somePath(r *rand.Rand, tops string) string {
	p := "/" + string(tops[r.Intn(len(tops))])
	for range r.Intn(3) {
		p += "/" + string(rune('a'+r.Intn(3)))
	}
	return p
}

func someOp(r *rand.Rand, tops string) api.Op {
	o := api.Op{Kind: 1 + r.Intn(7), Path: somePath(r, tops), To: somePath(r, tops), N: 1 + r.Intn(2), M: 1 + r.Intn(3)}
	if r.Intn(3) == 0 {
		o.Kind = api.Make
	}
	return o
}

// walk has operations and changes of pieces befall a tree.
func walk(t *testing.T, seed int64, each func(f api.Fed, g api.Fed, o api.Op, a api.Ans, moved bool)) {
	r := rand.New(rand.NewSource(seed))
	for range 60 {
		f := New(r.Intn(8))
		for range 150 {
			var g api.Fed
			var a api.Ans
			o := someOp(r, "abc")
			moved := true
			switch r.Intn(12) {
			case 0, 1:
				g, a.Err = Cut(f, o.Path, r.Intn(8))
			case 2:
				g, a.Err = Join(f, o.Path)
			case 3:
				g, a.Err = Move(f, o.Path, r.Intn(8))
			default:
				g, a = Do(f, o)
				moved = false
			}
			if !Right(g) || a.Err != api.OK && !Same(f, g) {
				t.Fatal("not right, or refused and changed", o, a, g)
			}
			each(f, g, o, a, moved)
			f = g
		}
	}
}

// P20.2: all groups together answer as one tree does, but for what crosses, or is a piece.
func TestP202AsOne(t *testing.T) {
	var one api.FS
	done, crossed := 0, 0
	walk(t, 1, func(f api.Fed, g api.Fed, o api.Op, a api.Ans, moved bool) {
		if f.Next == 2 && f.Cookie == 1 {
			one = fs.New()
		}
		if moved || a.Err == api.ErrPiece || a.Err == api.ErrCross {
			if !moved {
				crossed++
			}
			return
		}
		was := one
		next, b := fs.Do(one, o)
		one = next
		if fmt.Sprint(a) != fmt.Sprint(b) || !tree.Same(Whole(g), one.S.Now) || !tree.Same(Whole(f), was.S.Now) {
			t.Fatal(o, a, b)
		}
		done++
	})
	if done < 1000 || crossed < 50 {
		t.Error(done, crossed)
	}
}

// P20.3: cutting, joining and moving pieces alters nothing of the tree.
func TestP203Moved(t *testing.T) {
	n := 0
	walk(t, 2, func(f api.Fed, g api.Fed, o api.Op, a api.Ans, moved bool) {
		if moved && a.Err == api.OK {
			n++
			if !tree.Same(Whole(f), Whole(g)) || slices.Equal(f.Pieces, g.Pieces) {
				t.Fatal(o, f, g)
			}
		}
		if !moved && !slices.Equal(f.Pieces, g.Pieces) {
			t.Fatal("pieces are altered", o)
		}
	})
	if n < 100 {
		t.Error(n)
	}
}

// lot is what a group has.
func lot(f api.Fed, group int) api.Lot {
	for _, l := range f.Lots {
		if l.Group == group {
			return l
		}
	}
	return api.Lot{Group: group}
}

// P20.4: what an operation answers, and alters, hangs on the lots of the groups that it asks alone.
func TestP204Alone(t *testing.T) {
	r := rand.New(rand.NewSource(4))
	for range 100 {
		var two2 [2]api.Fed
		for i := range two2 { // two trees that are unlike below /x alone
			f := after(t, New(0), dir("/x"), dir("/a"), dir("/b"))
			two2[i] = cut(t, cut(t, cut(t, f, "/x", 2), "/a", 1), "/b", 3)
		}
		two2[0] = after(t, two2[0], file("/x/p"), dir("/x/q"), file("/x/q/r"))
		two2[1] = after(t, two2[1], dir("/x/z"), file("/x/z/z"), dir("/x/a"))
		for range 60 {
			o := someOp(r, "ab")
			if asks := Asks(two2[0], o); slices.Contains(asks, 2) || !slices.Equal(asks, Asks(two2[1], o)) {
				t.Fatal(o, asks)
			}
			var a [2]api.Ans
			for i := range two2 {
				was := two2[i]
				two2[i], a[i] = Do(was, o)
				for _, p := range was.Pieces {
					asked := slices.Contains(Asks(was, o), p.Group)
					if !asked && !sameLot(lot(was, p.Group), lot(two2[i], p.Group)) {
						t.Fatal("another group's lot is altered", o)
					}
				}
			}
			if fmt.Sprint(a[0]) != fmt.Sprint(a[1]) {
				t.Fatal(o, a)
			}
			for _, group := range []int{0, 1, 3} {
				if !sameLot(lot(two2[0], group), lot(two2[1], group)) {
					t.Fatal(o, group)
				}
			}
		}
	}
}
