package chunk

import (
	"bytes"
	"fmt"
	"math"
	"math/rand"
	"slices"
	"testing"

	"catacomb/api"
	"catacomb/disk"
	"catacomb/pack"
	"catacomb/sum"
)

func same(a api.Copy, b api.Copy) bool {
	return a.Id == b.Id && a.Ver == b.Ver && bytes.Equal(a.Data, b.Data) && slices.Equal(a.Sums, b.Sums)
}

func sameDisk(a api.Disk, b api.Disk) bool {
	pages := func(x, y []api.Page) bool {
		return slices.EqualFunc(x, y, func(p, q api.Page) bool { return p.At == q.At && bytes.Equal(p.Data, q.Data) })
	}
	return pages(a.Synced, b.Synced) && pages(a.Loose, b.Loose) && a.Down == b.Down
}

func put(t *testing.T, d api.Disk, l ...api.Copy) api.Disk {
	t.Helper()
	for _, c := range l {
		e, err := Put(d, c)
		if err != api.OK {
			t.Fatal(c, err)
		}
		d = e
	}
	return d
}

func sync(d api.Disk) api.Disk { d, _ = disk.Sync(d); return d }

func some(r *rand.Rand, id int) api.Copy {
	b := make([]byte, r.Intn(65))
	r.Read(b)
	return New(id, int(r.Uint64()>>(24+r.Intn(40))), b)
}

// P25.1: new copies, and the page of one.
func TestP251Page(t *testing.T) {
	d := put(t, disk.New(), New(0, 0, nil))
	if b, err := disk.Read(d, 0); err != api.OK || len(b) != 8 || !bytes.Equal(b[:4], make([]byte, 4)) {
		t.Error(b, err)
	}
	data := []byte("0123456789abcdefxyz")
	c := New(7, 5, data)
	if !same(c, api.Copy{Id: 7, Ver: 5, Data: data, Sums: sum.Blocks(data)}) || len(c.Sums) != 2 {
		t.Error(c)
	}
	b, _ := disk.Read(put(t, disk.New(), c), 7)
	want := slices.Concat(pack.Int(7), pack.Int(5), pack.Str(string(data)), pack.Ints(c.Sums))
	s := sum.Of(want)
	if want = append(want, byte(s), byte(s>>8), byte(s>>16), byte(s>>24)); !bytes.Equal(b, want) {
		t.Error(b, want)
	}
	if sum.Of(b) != 1214729159 {
		t.Error("the sum behind")
	}
}

// P25.1: errors of Put, Get and Lose, in order; with an error the disk is as it was.
func TestP251Errors(t *testing.T) {
	down := disk.Crash(disk.New(), 0)
	bad := New(5, 1, []byte("x"))
	bad.Sums = []int{1}
	for i, x := range []struct {
		d   api.Disk
		c   api.Copy
		err api.Errno
	}{
		{disk.New(), New(-1, 0, nil), api.ErrArg}, {down, New(200, 0, nil), api.ErrArg}, {disk.New(), New(199, 1<<40, make([]byte, 64)), api.OK}, {disk.New(), New(0, -1, nil), api.ErrArg}, {disk.New(), New(0, 1<<40+1, nil), api.ErrArg}, {disk.New(), New(0, 0, make([]byte, 65)), api.ErrArg}, {disk.New(), bad, api.ErrArg}, {disk.New(), api.Copy{Id: 3, Data: []byte{1}}, api.ErrArg}, {disk.New(), api.Copy{Id: 3, Sums: []int{1}}, api.ErrArg}, {down, New(0, 0, nil), api.ErrDown},
	} {
		if d, err := Put(x.d, x.c); err != x.err || err != api.OK && !sameDisk(d, x.d) {
			t.Errorf("%d: %d", i, err)
		}
	}
	d := sync(put(t, disk.New(), New(3, 9, []byte("abc")), New(4, 9, []byte("abc"))))
	d, _ = Lose(d, 4)
	d, _ = disk.Write(d, 5, []byte("no copy"))
	raw, _ := disk.Read(d, 3)
	d, _ = disk.Write(d, 6, raw)                         // another chunk's copy
	d, _ = disk.Write(d, 7, append(bytes.Clone(raw), 0)) // with a byte behind
	d, _ = disk.Write(d, 8, sealed(slices.Concat(pack.Int(8), pack.Int(1), pack.Str("x"), pack.Ints([]int{7}))))
	d, _ = disk.Write(d, 9, sealed(slices.Concat(pack.Int(9), pack.Int(-1), pack.Str(""), pack.Ints(nil))))
	d, _ = disk.Write(d, 10, sealed(slices.Concat(pack.Int(10), pack.Int(1), pack.Str(""), pack.Ints(nil), []byte{0})))
	d, _ = disk.Write(d, 11, []byte{0})
	d, _ = disk.Write(d, 300, raw)
	off := disk.Crash(d, 99)
	for id, err := range map[int]api.Errno{-1: api.ErrArg, 200: api.ErrArg, 300: api.ErrArg, math.MinInt: api.ErrArg, 0: api.ErrGone, 3: api.OK, 4: api.ErrGone, 5: api.ErrRot, 6: api.ErrRot, 7: api.ErrRot, 8: api.ErrRot, 9: api.ErrRot, 10: api.ErrRot, 11: api.ErrRot} {
		if c, got := Get(d, id); got != err || (err == api.OK) != same(c, New(3, 9, []byte("abc"))) || err != api.OK && !same(c, api.Copy{}) {
			t.Error(id, c, got)
		}
		want := err
		if err == api.ErrRot {
			want = api.OK
		}
		if e, got := Lose(d, id); got != want || want != api.OK && !sameDisk(e, d) {
			t.Error(id, got)
		}
		if want != api.ErrArg {
			want = api.ErrDown
		}
		_, e1 := Get(off, id)
		e, e2 := Lose(off, id)
		if e1 != want || e2 != want || !sameDisk(e, off) {
			t.Error(id, e1, e2)
		}
	}
	if l := Has(d); !slices.Equal(l, []int{3, 5, 6, 7, 8, 9, 10, 11}) || len(Has(off)) != 0 {
		t.Error(l)
	}
}

// P25.2: what is put is had, just so, and nothing else is altered; what is lost is gone.
func TestP252Back(t *testing.T) {
	r := rand.New(rand.NewSource(1))
	for range 50 {
		d := disk.New()
		want := map[int]api.Copy{}
		for range 60 {
			id := r.Intn(6) * 39
			switch r.Intn(4) {
			case 0:
				e, err := Lose(d, id)
				if _, had := want[id]; had != (err == api.OK) {
					t.Fatal(id, err)
				}
				delete(want, id)
				d = e
			case 1:
				d = sync(d)
			default:
				want[id] = some(r, id)
				d = put(t, d, want[id])
			}
			var ids []int
			for i := range 200 {
				c, err := Get(d, i)
				w, had := want[i]
				if had != (err == api.OK) || had && !same(c, w) || !had && err != api.ErrGone {
					t.Fatal(i, c, err)
				}
				if had {
					ids = append(ids, i)
				}
			}
			if !slices.Equal(Has(d), ids) {
				t.Fatal(Has(d), ids)
			}
		}
	}
}

// P25.3: what is put and synced is there behind a crash; what is not may be as it was ahead.
func TestP253Sure(t *testing.T) {
	r := rand.New(rand.NewSource(2))
	for range 500 {
		old, other := some(r, 5), some(r, 6)
		d := sync(put(t, disk.New(), old, other))
		fresh := some(r, 5)
		d = put(t, d, fresh)
		for keep, want := range []api.Copy{old, fresh} {
			e := disk.Up(disk.Crash(d, keep))
			c, err := Get(e, 5)
			o, err2 := Get(e, 6)
			if err != api.OK || !same(c, want) || err2 != api.OK || !same(o, other) {
				t.Fatal(keep, c, err)
			}
		}
		if c, err := Get(disk.Up(disk.Crash(sync(d), 0)), 5); err != api.OK || !same(c, fresh) {
			t.Fatal(c, err)
		}
	}
}

// P25.4: no bit of a synced copy can be turned without being told.
func TestP254Rot(t *testing.T) {
	r := rand.New(rand.NewSource(3))
	for i := range 30 {
		id := []int{0, 5, 63, 64, 199}[r.Intn(5)]
		c := some(r, id)
		d := sync(put(t, disk.New(), c))
		b, _ := disk.Read(d, id)
		for bit := range 8 * len(b) {
			e := disk.Rot(d, id, bit)
			if got, err := Get(e, id); err != api.ErrRot || !same(got, api.Copy{}) {
				t.Fatal(i, bit, fmt.Sprint(got), err)
			}
			if got, err := Get(disk.Rot(e, id, bit), id); err != api.OK || !same(got, c) {
				t.Fatal("not turned back", err)
			}
		}
	}
}
