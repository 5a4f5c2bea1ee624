package chain

import (
	"bytes"
	"fmt"
	"math/rand"
	"slices"
	"testing"

	"catacomb/api"
	"catacomb/chunk"
	"catacomb/disk"
)

func disks(n int) []api.Disk { return make([]api.Disk, n) }

func sameDisk(a api.Disk, b api.Disk) bool {
	pages := func(x, y []api.Page) bool {
		return slices.EqualFunc(x, y, func(p, q api.Page) bool { return p.At == q.At && bytes.Equal(p.Data, q.Data) })
	}
	return pages(a.Synced, b.Synced) && pages(a.Loose, b.Loose) && a.Down == b.Down
}

func same(a []api.Disk, b []api.Disk) bool { return slices.EqualFunc(a, b, sameDisk) }

func sameChain(a api.Chain, b api.Chain) bool {
	return a.Id == b.Id && a.Ver == b.Ver && slices.Equal(a.Servers, b.Servers)
}

// lay has bytes stand on a disk, by the words.
func lay(d api.Disk, id int, ver int, data string) api.Disk {
	d, _ = chunk.Put(d, chunk.New(id, ver, []byte(data)))
	d, _ = disk.Sync(d)
	return d
}

// with is a row with another disk.
func with(l []api.Disk, i int, d api.Disk) []api.Disk {
	l = slices.Clone(l)
	l[i] = d
	return l
}

func made(t *testing.T, servers []int, data string, n int) (api.Chain, []api.Disk) {
	t.Helper()
	c, d, err := Make(7, servers, disks(n), []byte(data))
	if err != api.OK {
		t.Fatal(err)
	}
	return c, d
}

// rot turns a bit of a copy.
func rot(l []api.Disk, s int, bit int) []api.Disk { return with(l, s, disk.Rot(l[s], 7, bit)) }

// P26.1: which chains are right.
func TestP261Right(t *testing.T) {
	for i, x := range []struct {
		c     api.Chain
		right bool
	}{
		{api.Chain{Id: 0, Ver: 1, Servers: []int{0}}, true}, {api.Chain{Id: 199, Ver: 1 << 40, Servers: []int{4, 0, 1, 2, 3}}, true}, {api.Chain{Id: -1, Ver: 1, Servers: []int{0}}, false}, {api.Chain{Id: 200, Ver: 1, Servers: []int{0}}, false}, {api.Chain{Ver: 0, Servers: []int{0}}, false}, {api.Chain{Ver: 1<<40 + 1, Servers: []int{0}}, false},
		{api.Chain{Ver: 1}, false}, {api.Chain{Ver: 1, Servers: []int{0, 1, 2, 3, 4, 5}}, false}, {api.Chain{Ver: 1, Servers: []int{1, 1}}, false}, {api.Chain{Ver: 1, Servers: []int{6}}, false}, {api.Chain{Ver: 1, Servers: []int{-1}}, false}, {api.Chain{Ver: 1, Servers: []int{5}}, true},
	} {
		if Right(x.c, disks(6)) != x.right {
			t.Errorf("%d: %v", i, !x.right)
		}
	}
}

// P26.1: Make and Write, and that disks are what is laid.
func TestP261Make(t *testing.T) {
	down := with(disks(4), 2, disk.Crash(disk.New(), 0))
	for i, x := range []struct {
		id      int
		servers []int
		data    string
		err     api.Errno
	}{{200, []int{2}, "", api.ErrArg}, {1, nil, "", api.ErrArg}, {1, []int{4}, "", api.ErrArg}, {1, []int{2, 2}, "", api.ErrArg}, {1, []int{2}, string(make([]byte, 65)), api.ErrArg}, {1, []int{0, 2}, "", api.ErrDown}, {1, []int{3, 0}, string(make([]byte, 64)), api.OK}} {
		c, d, err := Make(x.id, x.servers, down, []byte(x.data))
		if err != x.err {
			t.Errorf("%d: %d", i, err)
		}
		if err != api.OK && (!sameChain(c, api.Chain{}) || !same(d, down)) {
			t.Errorf("%d: %v", i, c)
		}
		if want := with(with(down, 3, lay(down[3], 1, 1, x.data)), 0, lay(down[0], 1, 1, x.data)); err == api.OK && (!sameChain(c, api.Chain{Id: 1, Ver: 1, Servers: []int{3, 0}}) || !same(d, want)) {
			t.Errorf("%d: %v", i, c)
		}
	}
	c, d := made(t, []int{2, 0, 1}, "old", 4)
	if !slices.Equal(Intact(c, d), []int{2, 0, 1}) {
		t.Error(Intact(c, d))
	}
	off := with(d, 0, disk.Crash(d[0], 0))
	for i, x := range []struct {
		d    []api.Disk
		upto int
		laid []int
		ok   bool
	}{{d, 9, []int{2, 0, 1}, true}, {d, 3, []int{2, 0, 1}, true}, {d, 2, []int{2, 0}, false}, {d, 0, nil, false}, {d, -5, nil, false}, {off, 9, []int{2}, false}, {off, 1, []int{2}, false}} {
		want := x.d
		for _, s := range x.laid {
			want = with(want, s, lay(want[s], 7, 1, "new"))
		}
		if got, ok := Write(c, x.d, []byte("new"), x.upto); ok != x.ok || !same(got, want) {
			t.Errorf("%d: %v", i, ok)
		}
	}
	if got, ok := Write(c, d, make([]byte, 64), 9); !ok || same(got, d) {
		t.Error("64 bytes")
	}
	if got, ok := Write(c, d, make([]byte, 65), 9); ok || !same(got, d) {
		t.Error("65 bytes")
	}
	loose, _ := disk.Write(d[0], 500, []byte{1}) // what stood loose is synced, too
	got, _ := Write(c, with(d, 0, loose), []byte("new"), 9)
	if len(got[0].Loose) != 0 || len(got[0].Synced) != 2 {
		t.Error(got[0])
	}
}

// P26.1: Read is of the tail.
func TestP261Read(t *testing.T) {
	c, d := made(t, []int{2, 0}, "old", 4)
	head, _ := Write(c, d, []byte("new"), 1)
	old := c
	old.Ver = 9
	gone, _ := chunk.Lose(d[0], 7)
	for i, x := range []struct {
		c    api.Chain
		d    []api.Disk
		want string
		err  api.Errno
	}{{c, d, "old", 0}, {c, head, "old", 0}, {old, d, "", api.ErrStale}, {c, rot(d, 0, 3), "", api.ErrRot}, {c, rot(d, 2, 3), "old", 0}, {c, with(d, 0, disk.Crash(d[0], 0)), "", api.ErrDown}, {c, with(d, 0, gone), "", api.ErrGone}} {
		if b, err := Read(x.c, x.d); string(b) != x.want || err != x.err {
			t.Errorf("%d: %q, %d", i, b, err)
		}
	}
	for i, x := range []struct {
		c    api.Chain
		d    []api.Disk
		want []int
	}{{c, rot(d, 2, 3), []int{0}}, {old, d, nil}, {c, with(d, 0, disk.Crash(d[0], 0)), []int{2}}, {c, with(d, 2, gone), []int{0}}} {
		if l := Intact(x.c, x.d); !slices.Equal(l, x.want) {
			t.Errorf("%d: %v", i, l)
		}
	}
}

// P26.1: cuts: the examples, errors in order, who is left, and whose bytes.
func TestP261Cut(t *testing.T) {
	c, d := made(t, []int{1, 2}, "old", 4)
	d, _ = Write(c, d, []byte("new"), 1)
	for s, want := range map[int]string{1: "old", 2: "new"} {
		k, e, err := Cut(c, d, s)
		b, err2 := Read(k, e)
		if err != api.OK || err2 != api.OK || string(b) != want || !sameChain(k, api.Chain{Id: 7, Ver: 2, Servers: []int{3 - s}}) {
			t.Error(s, k, err, b)
		}
	}
	c, d = made(t, []int{3, 0, 1, 2}, "old", 4)
	d, _ = Write(c, d, []byte("new"), 2)
	top := c
	top.Ver = 1 << 40
	off := func(l []api.Disk, servers ...int) []api.Disk {
		for _, s := range servers {
			l = with(l, s, disk.Crash(l[s], 0))
		}
		return l
	}
	for i, x := range []struct {
		c    api.Chain
		d    []api.Disk
		s    int
		err  api.Errno
		left []int
		data string
	}{
		{top, d, 5, api.ErrArg, nil, ""}, {top, d, 3, api.ErrMany, nil, ""}, {c, off(d, 0, 1, 2), 3, api.ErrCut, nil, ""}, {c, rot(off(d, 0, 1), 2, 5), 3, api.ErrCut, nil, ""}, {api.Chain{Id: 7, Ver: 1, Servers: []int{3}}, d, 3, api.ErrCut, nil, ""},
		{c, d, 3, 0, []int{0, 1, 2}, "new"}, {c, d, 2, 0, []int{3, 0, 1}, "new"}, {c, off(d, 3, 0), 2, 0, []int{1}, "old"}, {c, off(d, 3), 0, 0, []int{1, 2}, "old"}, {c, rot(rot(d, 3, 4), 0, 4), 2, 0, []int{3, 0, 1}, "old"}, {c, off(d, 2), 2, 0, []int{3, 0, 1}, "new"},
	} {
		k, e, err := Cut(x.c, x.d, x.s)
		if err != x.err || err != api.OK && (!sameChain(k, x.c) || !same(e, x.d)) {
			t.Errorf("%d: %d", i, err)
		}
		want := x.d
		for _, s := range x.left {
			want = with(want, s, lay(want[s], 7, 2, x.data))
		}
		if err == api.OK && (!sameChain(k, api.Chain{Id: 7, Ver: 2, Servers: x.left}) || !same(e, want)) {
			t.Errorf("%d: %v", i, k)
		}
	}
}

// P26.1: who is mended, and patched.
func TestP261Mend(t *testing.T) {
	c, d := made(t, []int{1, 2}, "old", 7)
	d, _ = Write(c, d, []byte("new"), 1)
	full, _ := made(t, []int{0, 1, 2, 3, 4}, "x", 7)
	off := with(d, 5, disk.Crash(d[5], 0))
	for i, x := range []struct {
		c   api.Chain
		d   []api.Disk
		s   int
		err api.Errno
	}{{full, d, 7, api.ErrArg}, {full, d, -1, api.ErrArg}, {full, d, 3, api.ErrArg}, {full, off, 5, api.ErrMany}, {c, rot(off, 2, 1), 5, api.ErrDown}, {c, rot(d, 2, 1), 5, api.ErrRot}, {c, with(d, 2, disk.Crash(d[2], 0)), 5, api.ErrDown}, {c, d, 5, api.OK}} {
		k, e, err := Mend(x.c, x.d, x.s)
		if err != x.err || err != api.OK && (!sameChain(k, x.c) || !same(e, x.d)) {
			t.Errorf("%d: %d", i, err)
		}
		if err == api.OK && (!sameChain(k, api.Chain{Id: 7, Ver: 1, Servers: []int{1, 2, 5}}) || !same(e, with(d, 5, lay(d[5], 7, 1, "old")))) {
			t.Errorf("%d: %v", i, k)
		}
	}
	c, d = made(t, []int{3, 0, 1, 2}, "a", 4)
	for n, s := range []string{"d", "c", "b"} {
		d, _ = Write(c, d, []byte(s), 3-n) // 3 has b, 0 has c, 1 has d, 2 has a
	}
	gone, _ := chunk.Lose(d[1], 7)
	gone, _ = disk.Sync(gone)
	for i, x := range []struct {
		d    []api.Disk
		s    int
		err  api.Errno
		data string
	}{
		{d, 5, api.ErrArg, ""}, {with(d, 2, disk.Crash(d[2], 0)), 3, api.ErrDown, ""}, {d, 0, api.OK, ""}, {rot(rot(rot(rot(d, 0, 1), 1, 1), 2, 1), 3, 1), 0, api.ErrCut, ""}, {rot(d, 3, 1), 3, api.OK, "c"}, {rot(rot(d, 3, 1), 0, 1), 3, api.OK, "d"}, {rot(d, 0, 1), 0, api.OK, "d"}, {rot(rot(d, 0, 1), 1, 1), 0, api.OK, "a"}, {rot(d, 2, 1), 2, api.OK, "d"}, {rot(rot(d, 2, 1), 1, 1), 2, api.OK, "c"}, {rot(rot(rot(d, 2, 1), 1, 1), 0, 1), 2, api.OK, "b"}, {with(d, 1, gone), 1, api.OK, "a"},
	} {
		e, err := Patch(c, x.d, x.s)
		want := x.d
		if x.data != "" {
			want = with(want, x.s, lay(want[x.s], 7, 1, x.data))
		}
		if err != x.err || !same(e, want) {
			t.Errorf("%d: %d", i, err)
		}
	}
}

// world is a chain, and which write was acknowledged, begun, and read last.
type world struct {
	c                  api.Chain
	d                  []api.Disk
	acked, begun, read int
}

func newWorld(t *testing.T, r *rand.Rand) *world {
	n := 1 + r.Intn(5)
	w := &world{}
	w.c, w.d = made(t, r.Perm(6)[:n], "0", 6)
	return w
}

// number is which write's bytes these are.
func number(b []byte) int {
	n := 0
	fmt.Sscan(string(b), &n)
	return n
}

func (w *world) step(r *rand.Rand) string {
	ahead, was := w.d, slices.Clone(w.d)
	wrong := w.befall(r)
	if !same(ahead, was) {
		return "disks that were handed in are changed"
	}
	return wrong
}

func (w *world) befall(r *rand.Rand) string {
	s := r.Intn(6)
	switch r.Intn(10) {
	case 0, 1, 2:
		w.begun++
		ok := false
		if w.d, ok = Write(w.c, w.d, []byte(fmt.Sprint(w.begun)), r.Intn(7)); ok {
			w.acked = w.begun
			if l := Intact(w.c, w.d); len(l) != len(w.c.Servers) || !w.alike() {
				return "not all are whole behind a write"
			}
		}
	case 3:
		w.d = with(w.d, s, disk.Crash(w.d[s], r.Intn(3)))
	case 4, 5:
		w.d = with(w.d, s, disk.Up(w.d[s]))
	case 6:
		was := w.c
		var err api.Errno
		w.c, w.d, err = Cut(w.c, w.d, s)
		if err == api.OK {
			if l := Intact(w.c, w.d); len(l) != len(w.c.Servers) || !w.alike() {
				return "not all are whole behind a cut"
			}
			for _, x := range w.c.Servers {
				if b, err := Read(api.Chain{Id: was.Id, Ver: was.Ver, Servers: []int{x}}, w.d); err != api.ErrStale || len(b) > 0 {
					return "read by a chain from ahead of a cut"
				}
			}
		}
	case 7:
		w.c, w.d, _ = Mend(w.c, w.d, s)
	case 8:
		w.d, _ = Patch(w.c, w.d, s)
	default:
		if _, err := chunk.Get(w.d[s], 7); err == api.OK && r.Intn(3) == 0 {
			w.d = rot(w.d, s, r.Intn(60))
		}
	}
	if !Right(w.c, w.d) {
		return "not right"
	}
	return w.reads()
}

// alike: have all servers the same copy?
func (w *world) alike() bool {
	first, _ := chunk.Get(w.d[w.c.Servers[0]], 7)
	return !slices.ContainsFunc(w.c.Servers, func(s int) bool {
		x, _ := chunk.Get(w.d[s], 7)
		return !bytes.Equal(x.Data, first.Data)
	})
}

func (w *world) reads() string {
	b, err := Read(w.c, w.d)
	if err != api.OK {
		return ""
	}
	n := number(b)
	if n < w.acked || n < w.read || n > w.begun {
		return fmt.Sprint("read ", n, ", acknowledged ", w.acked, ", read ", w.read, ", begun ", w.begun)
	}
	w.read = n
	return ""
}

func runs(t *testing.T, seed int64, each func(r *rand.Rand, w world)) {
	r := rand.New(rand.NewSource(seed))
	acked := 0
	for range 300 {
		w := newWorld(t, r)
		for range 120 {
			if wrong := w.step(r); wrong != "" {
				t.Fatal(wrong)
			}
			each(r, *w)
		}
		acked += w.acked
	}
	if acked < 1000 {
		t.Error("nothing happened", acked)
	}
}

func nothing(r *rand.Rand, w world) {}

// P26.2: what is read is what was acknowledged last, or begun since, and never older than what was read.
func TestP262Acknowledged(t *testing.T) { runs(t, 1, nothing) }

// P26.3: one whole copy is enough.
func TestP263One(t *testing.T) {
	runs(t, 2, func(r *rand.Rand, w world) {
		l := Intact(w.c, w.d)
		if len(l) == 0 || r.Intn(4) > 0 {
			return
		}
		last := l[r.Intn(len(l))]
		for _, s := range r.Perm(6) {
			if s != last && slices.Contains(w.c.Servers, s) {
				var err api.Errno
				if w.c, w.d, err = Cut(w.c, w.d, s); err != api.OK {
					t.Fatal(err)
				}
			}
		}
		b, err := Read(w.c, w.d)
		if !slices.Equal(w.c.Servers, []int{last}) || err != api.OK || number(b) < w.acked || number(b) > w.begun {
			t.Fatal(w.c, b, err, w.acked)
		}
	})
}

// P26.4: by a chain from ahead of a cut nothing is read of a server that is still in it.
func TestP264Stale(t *testing.T) { runs(t, 3, nothing) }

// P26.5: behind an acknowledged write, and behind a cut, all copies are whole, and the same.
func TestP265AllAgain(t *testing.T) { runs(t, 4, nothing) }
