package shard

import (
	"fmt"
	"math/rand"
	"slices"
	"strings"
	"testing"

	"catacomb/api"
	"catacomb/name"
)

func p(path string, group int, epoch int) api.Piece {
	return api.Piece{Path: path, Group: group, Epoch: epoch}
}

func some() []api.Piece {
	return []api.Piece{p("/", 1, 5), p("/a", 2, 9), p("/a/b", 3, 2), p("/c", 1, 1)}
}

// P18.1: which pieces are right.
func TestP181Right(t *testing.T) {
	var many []api.Piece
	for i := range 17 {
		many = append(many, p(fmt.Sprintf("/%02d", i), 0, 1))
	}
	many[0].Path = "/"
	for i, x := range []struct {
		l     []api.Piece
		right bool
	}{
		{nil, false}, {New(0), true}, {New(7), true}, {some(), true}, {some()[1:], false}, {[]api.Piece{p("/", 8, 1)}, false}, {[]api.Piece{p("/", -1, 1)}, false}, {[]api.Piece{p("/", 0, 0)}, false}, {[]api.Piece{p("/", 0, 1<<40)}, true}, {[]api.Piece{p("/", 0, 1<<40+1)}, false},
		{[]api.Piece{p("/", 0, 1), p("/b", 0, 1), p("/a", 0, 1)}, false}, {[]api.Piece{p("/", 0, 1), p("/a", 0, 1), p("/a", 0, 1)}, false}, {[]api.Piece{p("/", 0, 1), p("/a/", 0, 1)}, false}, {[]api.Piece{p("/", 0, 1), p("/a", 0, 1), p("a", 0, 1)}, false}, {many, false}, {many[:16], true}, {[]api.Piece{p("/", 0, 1), p("/", 0, 1)}, false}, {[]api.Piece{p("", 0, 1)}, false},
	} {
		if Right(x.l) != x.right {
			t.Errorf("%d: %v", i, !x.right)
		}
	}
	if l := New(3); !slices.Equal(l, []api.Piece{p("/", 3, 1)}) {
		t.Error(l)
	}
}

// P18.1: the piece of a path, and the pieces below one.
func TestP181Of(t *testing.T) {
	for path, want := range map[string]int{"/": 0, "/a": 1, "/a/b": 2, "/a/b/c/d": 2, "/a/c": 1, "/ab": 0, "/c": 3, "/c/a/b": 3, "/b": 0} {
		if i, err := Of(some(), path); i != want || err != api.OK {
			t.Error(path, i, err)
		}
	}
	for _, path := range []string{"", "a", "/a/", "//"} {
		if i, err := Of(some(), path); i != 0 || err != api.ErrName {
			t.Error(path, i, err)
		}
	}
	for path, want := range map[string][]int{"/": {0, 1, 2, 3}, "/a": {1, 2}, "/a/b": {2}, "/a/b/c": nil, "/ab": nil, "/c": {3}, "": nil, "/a/": nil} {
		if l := Below(some(), path); !slices.Equal(l, want) {
			t.Error(path, l)
		}
	}
}

// P18.1: cuts, joins and moves: errors, in order, and what is left.
func TestP181Change(t *testing.T) {
	l, top := some(), some()
	top[0].Epoch, top[1].Epoch, top[2].Epoch = 1<<40, 1<<40, 1<<40
	high := some()
	high[2].Epoch = 1 << 40
	var full []api.Piece
	for i := range 16 {
		full = append(full, p("/"+strings.Repeat("x", i), 0, 1))
	}
	cut := func(l []api.Piece, path string, group int) func() ([]api.Piece, api.Errno) {
		return func() ([]api.Piece, api.Errno) { return Cut(l, path, group) }
	}
	join := func(l []api.Piece, path string) func() ([]api.Piece, api.Errno) {
		return func() ([]api.Piece, api.Errno) { return Join(l, path) }
	}
	move := func(l []api.Piece, path string, group int) func() ([]api.Piece, api.Errno) {
		return func() ([]api.Piece, api.Errno) { return Move(l, path, group) }
	}
	for i, x := range []struct {
		do   func() ([]api.Piece, api.Errno)
		want []api.Piece
		err  api.Errno
	}{
		{cut(l, "a", 8), l, api.ErrArg}, {cut(l, "a", -1), l, api.ErrArg}, {cut(l, "/a/", 7), l, api.ErrName}, {cut(l, "/", 7), l, api.ErrThere}, {cut(full, "/x", 7), full, api.ErrThere}, {cut(top, "/a/b", 7), top, api.ErrThere}, {cut(full, "/y", 7), full, api.ErrMany}, {cut(top, "/y", 7), top, api.ErrMany},
		{cut(l, "/b", 7), []api.Piece{p("/", 1, 6), l[1], l[2], p("/b", 7, 6), l[3]}, 0}, {cut(l, "/a/b/c", 0), []api.Piece{l[0], l[1], p("/a/b", 3, 3), p("/a/b/c", 0, 3), l[3]}, 0}, {cut(l, "/a/a", 2), []api.Piece{l[0], p("/a", 2, 10), p("/a/a", 2, 10), l[2], l[3]}, 0}, {cut(high, "/z", 2), []api.Piece{p("/", 1, 6), high[1], high[2], high[3], p("/z", 2, 6)}, 0},
		{cut(full[:15], "/y", 0), append(append([]api.Piece{p("/", 0, 2)}, full[1:15]...), p("/y", 0, 2)), 0},
		{join(l, "a"), l, api.ErrName}, {join(l, "/"), l, api.ErrPiece}, {join(l, "/b"), l, api.ErrPiece}, {join(top, "/c"), top, api.ErrMany}, {join(high, "/a/b"), high, api.ErrMany}, {join(high, "/a"), []api.Piece{p("/", 1, 10), high[2], high[3]}, 0},
		{join(l, "/a/b"), []api.Piece{l[0], p("/a", 2, 10), l[3]}, 0}, {join(l, "/a"), []api.Piece{p("/", 1, 10), l[2], l[3]}, 0}, {join(l, "/c"), []api.Piece{p("/", 1, 6), l[1], l[2]}, 0},
		{move(l, "a", 8), l, api.ErrArg}, {move(l, "a", -1), l, api.ErrArg}, {move(l, "a", 1), l, api.ErrName}, {move(l, "/b", 1), l, api.ErrPiece}, {move(top, "/", 1), top, api.ErrMany}, {move(l, "/", 7), []api.Piece{p("/", 7, 6), l[1], l[2], l[3]}, 0}, {move(l, "/a/b", 3), []api.Piece{l[0], l[1], p("/a/b", 3, 3), l[3]}, 0}, {move(high, "/a", 0), []api.Piece{high[0], p("/a", 0, 10), high[2], high[3]}, 0},
	} {
		got, err := x.do()
		if err != x.err || !slices.Equal(got, x.want) || !Right(got) || !slices.Equal(l, some()) {
			t.Errorf("%d: %v, %d", i, got, err)
		}
	}
}

func paths() []string {
	l := []string{"/"}
	for _, a := range []string{"/a", "/b"} {
		l = append(l, a)
		for _, b := range []string{"/a", "/b", "/c"} {
			l = append(l, a+b, a+b+"/a", a+b+"/b")
		}
	}
	return l
}

// walk changes pieces, and tells each change.
func walk(seed int64, each func(was []api.Piece, now []api.Piece, cut string, err api.Errno)) {
	r := rand.New(rand.NewSource(seed))
	ps := paths()
	for range 100 {
		l := New(r.Intn(8))
		for range 60 {
			path, group, cut := ps[r.Intn(len(ps))], r.Intn(9), ""
			var m []api.Piece
			var err api.Errno
			switch r.Intn(4) {
			case 0, 1:
				m, err = Cut(l, path, group)
				cut = path
			case 2:
				m, err = Join(l, path)
			default:
				m, err = Move(l, path, group)
			}
			each(l, m, cut, err)
			l = m
		}
	}
}

// P18.2: each path has one piece; a cut takes along what was at or below it, and had the same piece.
func TestP182EachPath(t *testing.T) {
	walk(1, func(was []api.Piece, now []api.Piece, cut string, err api.Errno) {
		if !Right(now) {
			t.Fatal("not right", now)
		}
		if err != api.OK && !slices.Equal(was, now) {
			t.Fatal("refused, and changed")
		}
		for _, path := range paths() {
			i, _ := Of(now, path)
			for j, q := range now {
				if name.Above(q.Path, path) && len(q.Path) > len(now[i].Path) || i == j && !name.Above(q.Path, path) {
					t.Fatal(path, now)
				}
			}
			if cut == "" || err != api.OK {
				continue
			}
			from, _ := Of(was, cut)
			w, _ := Of(was, path)
			if took := now[i].Path == cut; took != (w == from && name.Above(cut, path)) {
				t.Fatal(cut, path, was, now)
			}
			if now[i].Path != cut && now[i].Path != was[w].Path {
				t.Fatal(cut, path)
			}
		}
	})
}

// P18.3: whenever a path's piece, or its group, is another one, the Epoch of its piece is greater.
func TestP183Epochs(t *testing.T) {
	walk(2, func(was []api.Piece, now []api.Piece, cut string, err api.Errno) {
		for _, path := range paths() {
			w, _ := Of(was, path)
			n, _ := Of(now, path)
			a, b := was[w], now[n]
			if (a.Path != b.Path || a.Group != b.Group) && b.Epoch <= a.Epoch || b.Epoch < a.Epoch {
				t.Fatal(path, a, b)
			}
		}
	})
}
