package quota

import (
	"fmt"
	"math"
	"math/rand"
	"slices"
	"testing"

	"catacomb/api"
	"catacomb/tree"
)

// grown is /a (2), /a/b (3), /a/b/f (4, 5 bytes), named /a/g and /h too, /c (5), /c/k (6, 7 bytes).
func grown() api.Tree {
	t := tree.New()
	t, _, _ = tree.Add(t, 1, "a", api.Dir)
	t, _, _ = tree.Add(t, 2, "b", api.Dir)
	t, _, _ = tree.Add(t, 3, "f", api.File)
	t, _ = tree.Put(t, 4, make([]byte, 5))
	t, _ = tree.Ln(t, 4, 2, "g")
	t, _ = tree.Ln(t, 4, 1, "h")
	t, _, _ = tree.Add(t, 1, "c", api.Dir)
	t, _, _ = tree.Add(t, 5, "k", api.File)
	t, _ = tree.Put(t, 6, make([]byte, 7))
	return t
}

func q(ino int, nodes int, bytes int) api.Quota {
	return api.Quota{Ino: ino, Nodes: nodes, Bytes: bytes}
}

// P9.1: what stands below, each node once.
func TestP91Used(t *testing.T) {
	g := grown()
	for ino, want := range map[int][2]int{1: {5, 12}, 2: {2, 5}, 3: {1, 5}, 5: {1, 7}, 4: {}, 9: {}, 0: {}, -1: {}} {
		if n, b := Used(g, ino); n != want[0] || b != want[1] {
			t.Error(ino, n, b)
		}
	}
	g, _, _ = tree.Un(g, 5, "k") // an orphan stands below nothing
	if n, b := Used(g, 1); n != 4 || b != 5 {
		t.Error(n, b)
	}
}

// P9.1: which quotas are right.
func TestP91Right(t *testing.T) {
	g := grown()
	many := tree.New()
	var l []api.Quota
	for i := range 17 {
		many, _, _ = tree.Add(many, 1, fmt.Sprint(i), api.Dir)
		l = append(l, q(i+2, 0, 0))
	}
	if Right(many, l) || !Right(many, l[:16]) {
		t.Error("more than may be")
	}
	for i, x := range []struct {
		l     []api.Quota
		right bool
	}{
		{nil, true}, {[]api.Quota{q(1, 5, 12)}, true}, {[]api.Quota{q(1, 4, 12)}, false}, {[]api.Quota{q(1, 5, 11)}, false}, {[]api.Quota{q(2, 2, 5), q(5, 1, 7)}, true}, {[]api.Quota{q(5, 1, 7), q(2, 2, 5)}, false},
		{[]api.Quota{q(2, 2, 5), q(2, 2, 5)}, false}, {[]api.Quota{q(4, 9, 9)}, false}, {[]api.Quota{q(9, 9, 9)}, false}, {[]api.Quota{q(2, -1, 9)}, false}, {[]api.Quota{q(2, 9, -1)}, false},
	} {
		if Right(g, x.l) != x.right {
			t.Errorf("%d: %v", i, !x.right)
		}
	}
	e, _, _ := tree.Add(tree.New(), 1, "e", api.Dir)
	if !Right(e, []api.Quota{q(2, 0, 0)}) || Right(e, []api.Quota{q(2, -1, 0)}) || Right(e, []api.Quota{q(2, 0, -1)}) {
		t.Error("of nothing")
	}
}

// P9.1: domains, and whether they are the same.
func TestP91Domain(t *testing.T) {
	g := grown()
	l := []api.Quota{q(2, 9, 9), q(5, 9, 9)}
	for dir, want := range map[int]int{1: 0, 2: 2, 3: 2, 5: 5} {
		if d := Domain(g, l, dir); d != want {
			t.Error(dir, d)
		}
		if d := Domain(g, []api.Quota{q(1, 9, 99)}, dir); d != 1 {
			t.Error(dir, d)
		}
		if d := Domain(g, nil, dir); d != 0 {
			t.Error(dir, d)
		}
	}
	for i, x := range []struct {
		a, b  int
		cross bool
	}{{1, 1, false}, {1, 2, true}, {2, 3, false}, {3, 5, true}, {5, 1, true}} {
		if Cross(g, l, x.a, x.b) != x.cross || Cross(g, l, x.b, x.a) != x.cross || Cross(g, nil, x.a, x.b) {
			t.Error(i)
		}
	}
}

// P9.1: from the deepest directory there may be, up to the root.
func TestP91Deep(t *testing.T) {
	g := tree.New()
	for i := range 12 {
		g, _, _ = tree.Add(g, i+1, "d", api.Dir)
	}
	l := []api.Quota{q(1, 12, 0)}
	if Domain(g, l, 13) != 1 || May(g, l, 13, 1, 0) != api.ErrQuota || May(g, l, 13, 0, 0) != api.OK || !Right(g, l) {
		t.Error(Domain(g, l, 13))
	}
}

// P9.1: May asks all quotas from a directory up.
func TestP91May(t *testing.T) {
	g := grown()
	l := []api.Quota{q(1, 6, 20), q(3, 1, 9)}
	for i, x := range []struct {
		dir, nodes, bytes int
		err               api.Errno
	}{
		{3, 0, 4, 0}, {3, 0, 5, api.ErrQuota}, {3, 1, 0, api.ErrQuota}, {2, 1, 0, 0}, {2, 2, 0, api.ErrQuota}, {2, 0, 8, 0}, {2, 0, 9, api.ErrQuota}, {5, 1, 8, 0}, {1, 2, 0, api.ErrQuota}, {1, -1 << 40, -1 << 40, 0},
		{3, -1, -1, 0}, {1, -1 << 40, 9, api.ErrQuota}, {1, 1 << 40, -1 << 40, api.ErrQuota}, {3, 0, 0, 0},
	} {
		if err := May(g, l, x.dir, x.nodes, x.bytes); err != x.err {
			t.Errorf("%d: %d", i, err)
		}
		if err := May(g, nil, x.dir, x.nodes, x.bytes); err != api.OK {
			t.Errorf("%d, of none: %d", i, err)
		}
	}
	if May(g, []api.Quota{q(5, 1, 7)}, 2, 9, 9) != api.OK {
		t.Error("another directory's quota")
	}
}

// P9.1: Set: which error is first, and what is set.
func TestP91Set(t *testing.T) {
	g := grown()
	l := []api.Quota{q(2, 9, 9)}
	for i, x := range []struct {
		ino, nodes, bytes int
		err               api.Errno
		want              []api.Quota
	}{
		{9, -1, 0, api.ErrNone, l}, {9, 0, 0, api.ErrNone, l}, {4, -1, 0, api.ErrNot, l}, {4, 0, 0, api.ErrNot, l}, {2, -1, 0, 0, nil}, {5, -1, -9, 0, l}, {2, math.MinInt, 0, 0, nil},
		{2, 1, 9, api.ErrQuota, l}, {2, 9, 4, api.ErrQuota, l}, {2, 2, 5, 0, []api.Quota{q(2, 2, 5)}}, {1, 5, 12, 0, []api.Quota{q(1, 5, 12), l[0]}}, {5, 1, 7, 0, []api.Quota{l[0], q(5, 1, 7)}}, {5, 1, -1, api.ErrQuota, l}, {5, math.MaxInt, math.MaxInt, 0, []api.Quota{l[0], q(5, math.MaxInt, math.MaxInt)}},
	} {
		got, err := Set(g, l, x.ino, x.nodes, x.bytes)
		if err != x.err || !slices.Equal(got, x.want) || !slices.Equal(l, []api.Quota{q(2, 9, 9)}) {
			t.Errorf("%d: %v, %d", i, got, err)
		}
	}
	many := tree.New()
	var full []api.Quota
	for i := range 17 {
		many, _, _ = tree.Add(many, 1, fmt.Sprint(i), api.Dir)
		full, _ = Set(many, full, i+2, 5, 5)
	}
	if len(full) != 16 {
		t.Fatal(len(full))
	}
	if got, err := Set(many, full, 18, 5, 5); err != api.ErrMany || !slices.Equal(got, full) {
		t.Error(err)
	}
	if _, err := Set(many, full, 1, 16, 5); err != api.ErrQuota {
		t.Error(err)
	}
	if got, err := Set(many, full, 17, 6, 6); err != api.OK || got[15] != q(17, 6, 6) {
		t.Error(err)
	}
	if got, err := Set(many, full, 18, -1, 6); err != api.OK || !slices.Equal(got, full) {
		t.Error(err)
	}
}

// some is a tree of directories and files, some with more names, and orphans.
func some(r *rand.Rand) api.Tree {
	t := tree.New()
	ino := func() int { return 1 + r.Intn(t.Next) }
	for range 40 {
		s := string(rune('a' + r.Intn(6)))
		switch r.Intn(7) {
		case 0, 1:
			t, _, _ = tree.Add(t, ino(), s, api.Dir)
		case 2, 3:
			t, _, _ = tree.Add(t, ino(), s, api.File)
		case 4:
			t, _ = tree.Put(t, ino(), make([]byte, r.Intn(9)))
		case 5:
			t, _ = tree.Ln(t, ino(), ino(), s)
		default:
			t, _, _ = tree.Un(t, ino(), s)
		}
	}
	return t
}

func dirs(t api.Tree) []int {
	var l []int
	for _, n := range t.Nodes {
		if n.Kind == api.Dir {
			l = append(l, n.Ino)
		}
	}
	return l
}

// quotas are right ones, of some directories.
func quotas(r *rand.Rand, t api.Tree, spare int) []api.Quota {
	var l []api.Quota
	for _, d := range dirs(t) {
		if n, b := Used(t, d); r.Intn(2) == 0 {
			l, _ = Set(t, l, d, n+r.Intn(spare+1), b+r.Intn(spare+1))
		}
	}
	return l
}

// P9.2: the root has all that has a name; a directory has what one below it has, and that one.
func TestP92All(t *testing.T) {
	r := rand.New(rand.NewSource(1))
	for range 300 {
		g := some(r)
		nodes, bytes := -1, 0
		for _, n := range g.Nodes {
			if n.Links > 0 || n.Ino == 1 {
				nodes, bytes = nodes+1, bytes+len(n.Data)
			}
		}
		if n, b := Used(g, 1); n != nodes || b != bytes {
			t.Fatal(n, b, nodes, bytes)
		}
		for _, d := range dirs(g)[1:] {
			n, _ := tree.Get(g, d)
			un, ub := Used(g, n.Up)
			if dn, db := Used(g, d); un < dn+1 || ub < db {
				t.Fatal(d, un, dn)
			}
		}
	}
}

// P9.3: one node more, or other bytes, leave quotas right just if May allows it.
func TestP93Kept(t *testing.T) {
	r := rand.New(rand.NewSource(2))
	for range 1500 {
		g := some(r)
		l := quotas(r, g, 3)
		if !Right(g, l) {
			t.Fatal("not right ahead")
		}
		d := dirs(g)[r.Intn(len(dirs(g)))]
		if u, _, err := tree.Add(g, d, "new", 1+r.Intn(2)); err == api.OK && Right(u, l) != (May(g, l, d, 1, 0) == api.OK) {
			t.Fatal(d, l)
		}
		n, _ := tree.Get(g, d)
		for _, e := range n.Ents {
			f, _ := tree.Get(g, e.Ino)
			if f.Kind != api.File || f.Links != 1 {
				continue
			}
			many := r.Intn(12)
			u, _ := tree.Put(g, f.Ino, make([]byte, many))
			if Right(u, l) != (May(g, l, d, 0, many-len(f.Data)) == api.OK) {
				t.Fatal(d, many, l)
			}
		}
	}
}

// P9.4: what is set is right, and no other quota is another one.
func TestP94Set(t *testing.T) {
	r := rand.New(rand.NewSource(3))
	for range 1500 {
		g := some(r)
		l := quotas(r, g, 3)
		d := dirs(g)[r.Intn(len(dirs(g)))]
		nodes, bytes := r.Intn(9)-1, r.Intn(15)
		m, err := Set(g, l, d, nodes, bytes)
		if !Right(g, m) {
			t.Fatal("not right", m)
		}
		other := func(x api.Quota) bool { return x.Ino == d }
		if !slices.Equal(slices.DeleteFunc(slices.Clone(l), other), slices.DeleteFunc(slices.Clone(m), other)) {
			t.Fatal("another quota", l, m)
		}
		if has := slices.Contains(m, q(d, nodes, bytes)); err == api.OK && has != (nodes >= 0) {
			t.Fatal(m)
		}
		if err == api.OK && nodes < 0 && slices.ContainsFunc(m, other) {
			t.Fatal(m)
		}
	}
}

// P9.5: a directory's domain is the nearest one with a quota.
func TestP95Nearest(t *testing.T) {
	r := rand.New(rand.NewSource(4))
	for range 500 {
		g := some(r)
		l := quotas(r, g, 3)
		for _, d := range dirs(g) {
			want := 0
			for at := d; want == 0; {
				if slices.ContainsFunc(l, func(x api.Quota) bool { return x.Ino == at }) {
					want = at
				}
				if at == 1 {
					break
				}
				n, _ := tree.Get(g, at)
				at = n.Up
			}
			if got := Domain(g, l, d); got != want {
				t.Fatal(d, got, want)
			}
		}
	}
}
