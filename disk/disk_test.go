package disk

import (
	"bytes"
	"math"
	"math/rand"
	"reflect"
	"slices"
	"testing"

	"catacomb/api"
)

func page(at int, b ...byte) api.Page { return api.Page{At: at, Data: b} }

// alike: do disks have alike pages?
func alike(a api.Disk, b api.Disk) bool {
	same := func(x, y []api.Page) bool {
		return slices.EqualFunc(x, y, func(p, q api.Page) bool { return p.At == q.At && bytes.Equal(p.Data, q.Data) })
	}
	return same(a.Synced, b.Synced) && same(a.Loose, b.Loose) && a.Down == b.Down
}

func copyOf(d api.Disk) api.Disk {
	pages := func(l []api.Page) []api.Page {
		l = slices.Clone(l)
		for i := range l {
			l[i].Data = bytes.Clone(l[i].Data)
		}
		return l
	}
	return api.Disk{Synced: pages(d.Synced), Loose: pages(d.Loose), Down: d.Down}
}

// P4.1: which disks are right.
func TestP41Right(t *testing.T) {
	long := page(0, make([]byte, 200)...)
	longer := page(0, make([]byte, 201)...)
	for i, x := range []struct {
		d     api.Disk
		right bool
	}{
		{New(), true}, {api.Disk{Down: true}, true}, {api.Disk{Synced: []api.Page{page(0), page(999)}}, true}, {api.Disk{Synced: []api.Page{page(1000)}}, false},
		{api.Disk{Synced: []api.Page{page(-1)}}, false}, {api.Disk{Synced: []api.Page{page(5), page(5)}}, false}, {api.Disk{Synced: []api.Page{page(5), page(4)}}, false},
		{api.Disk{Loose: []api.Page{page(5), page(5), page(4)}}, true}, {api.Disk{Loose: []api.Page{page(1000)}}, false}, {api.Disk{Loose: []api.Page{page(-1)}}, false},
		{api.Disk{Synced: []api.Page{long}, Loose: []api.Page{long}}, true}, {api.Disk{Synced: []api.Page{longer}}, false}, {api.Disk{Loose: []api.Page{longer}}, false},
		{api.Disk{Loose: []api.Page{page(1)}, Down: true}, false}, {api.Disk{Synced: []api.Page{page(1)}, Down: true}, true},
	} {
		if Right(x.d) != x.right {
			t.Errorf("%d: %v", i, !x.right)
		}
	}
}

// P4.1: errors, and the disk as it was beside them.
func TestP41Errors(t *testing.T) {
	d := api.Disk{Synced: []api.Page{page(3, 1)}, Loose: []api.Page{page(4, 2)}}
	for _, x := range []struct {
		at   int
		many int
		err  api.Errno
	}{{-1, 0, api.ErrArg}, {1000, 0, api.ErrArg}, {0, 201, api.ErrArg}, {0, 200, api.OK}, {999, 0, api.OK}} {
		e, err := Write(d, x.at, make([]byte, x.many))
		if err != x.err || err != api.OK && !alike(d, e) {
			t.Errorf("Write %v: %d", x, err)
		}
		if err == api.OK && !alike(e, api.Disk{Synced: d.Synced, Loose: append(slices.Clone(d.Loose), page(x.at, make([]byte, x.many)...))}) {
			t.Errorf("Write %v: %v", x, e)
		}
	}
	for at, err := range map[int]api.Errno{-1: api.ErrArg, 1000: api.ErrArg, 0: api.ErrGone, 999: api.ErrGone, 3: api.OK, 4: api.OK} {
		if b, got := Read(d, at); got != err || (err != api.OK) != (b == nil) {
			t.Errorf("Read %d: %v, %d", at, b, got)
		}
	}
}

// P4.1: of one disk two may come to be, though its rows have room behind.
func TestP41Apart(t *testing.T) {
	d := api.Disk{Loose: append(make([]api.Page, 0, 9), page(1, 1))}
	a, _ := Write(d, 2, []byte{2})
	b, _ := Write(d, 3, []byte{3})
	if len(d.Loose) != 1 || a.Loose[1].At != 2 || b.Loose[1].At != 3 || d.Loose[:2][1].At != 0 {
		t.Error(a, b)
	}
	data := []byte{7}
	a, _ = Write(d, 2, data)
	if data[0] = 8; a.Loose[1].Data[0] != 7 {
		t.Error("bytes that were handed in are kept")
	}
}

// P4.1: the example; laid pages stand in order, the last of each place.
func TestP41Lay(t *testing.T) {
	d, _ := Write(New(), 3, []byte{1})
	d, _ = Write(d, 3, []byte{2})
	if b, err := Read(Up(Crash(d, 1)), 3); err != api.OK || !bytes.Equal(b, []byte{1}) {
		t.Error(b, err)
	}
	d = api.Disk{Synced: []api.Page{page(2, 2), page(5, 5)}, Loose: []api.Page{page(7, 7), page(5, 6), page(1), page(5, 8)}}
	for keep, l := range map[int][]api.Page{
		-1: d.Synced, 0: d.Synced, 1: {page(2, 2), page(5, 5), page(7, 7)}, 2: {page(2, 2), page(5, 6), page(7, 7)}, 3: {page(1), page(2, 2), page(5, 6), page(7, 7)},
		4: {page(1), page(2, 2), page(5, 8), page(7, 7)}, math.MaxInt: {page(1), page(2, 2), page(5, 8), page(7, 7)}, math.MinInt: d.Synced,
	} {
		if e := Crash(d, keep); !alike(e, api.Disk{Synced: l, Down: true}) {
			t.Errorf("Crash %d: %v", keep, e)
		}
	}
	if e, err := Sync(d); err != api.OK || !alike(e, api.Disk{Synced: []api.Page{page(1), page(2, 2), page(5, 8), page(7, 7)}}) {
		t.Error("Sync", e, err)
	}
}

// some is a right disk that came to be by writes, syncs and crashes; each step is right, and changes nothing that was handed in.
func some(t *testing.T, r *rand.Rand) api.Disk {
	d := New()
	for range r.Intn(30) {
		was := copyOf(d)
		e := d
		switch r.Intn(8) {
		case 0:
			e, _ = Sync(d)
		case 1:
			e = Crash(d, r.Intn(6)-1)
		case 2:
			e = Up(d)
		case 3:
			e = Rot(d, r.Intn(6), r.Intn(40)-5)
		default:
			b := make([]byte, r.Intn(4))
			r.Read(b)
			e, _ = Write(d, r.Intn(6), b)
		}
		if !alike(d, was) {
			t.Fatal("a disk that was handed in is changed")
		}
		if !Right(e) {
			t.Fatal("not right", e)
		}
		d = e
	}
	return d
}

// P4.1: what comes of a right disk is right.
func TestP41Stays(t *testing.T) {
	r := rand.New(rand.NewSource(1))
	for range 2000 {
		some(t, r)
	}
}

// P4.2: what was written last is read, and all other pages are as they were.
func TestP42Written(t *testing.T) {
	r := rand.New(rand.NewSource(2))
	for range 1000 {
		d := Up(some(t, r))
		at, b := r.Intn(6), []byte{byte(r.Intn(256))}
		e, err := Write(d, at, b)
		if err != api.OK {
			t.Fatal(err)
		}
		s, _ := Sync(e)
		for i := range 6 {
			was, err := Read(d, i)
			if i == at {
				was, err = b, api.OK
			}
			got, e1 := Read(e, i)
			syn, e2 := Read(s, i)
			if !bytes.Equal(got, was) || e1 != err || !bytes.Equal(syn, was) || e2 != err {
				t.Fatal(i, at, got, syn, was)
			}
		}
	}
}

// P4.3: what was synced is read behind any crash; of the others the first ones stand.
func TestP43Sure(t *testing.T) {
	r := rand.New(rand.NewSource(3))
	for range 1000 {
		d, _ := Sync(Up(some(t, r)))
		want := map[int][]byte{}
		for _, p := range d.Synced {
			want[p.At] = p.Data
		}
		keep := r.Intn(8) - 1
		e := d
		for i := range r.Intn(6) {
			at, b := r.Intn(6), []byte{byte(i)}
			e, _ = Write(e, at, b)
			if i < keep {
				want[at] = b
			}
		}
		e = Crash(e, keep)
		if !e.Down || len(e.Loose) != 0 {
			t.Fatal("not down")
		}
		for at := range 7 {
			b, err := Read(Up(e), at)
			if w, ok := want[at]; ok != (err == api.OK) || !bytes.Equal(b, w) {
				t.Fatal(at, b, w, err)
			}
		}
	}
}

// P4.4: one bit of one page turns, and back; no other one does.
func TestP44Rot(t *testing.T) {
	r := rand.New(rand.NewSource(4))
	for range 2000 {
		d := some(t, r)
		at, bit := r.Intn(7), r.Intn(40)-3
		e := Rot(d, at, bit)
		if !alike(Rot(e, at, bit), d) {
			t.Fatal("not turned back")
		}
		want := copyOf(d)
		for i, p := range want.Synced {
			if p.At == at && bit >= 0 && bit < 8*len(p.Data) {
				want.Synced[i].Data[bit/8] ^= 1 << (bit % 8)
			}
		}
		if !alike(e, want) {
			t.Fatal(at, bit, d, e)
		}
	}
	d := api.Disk{Synced: []api.Page{page(0, 1)}}
	for _, bit := range []int{-1, 8, math.MaxInt, math.MinInt} {
		if !alike(Rot(d, 0, bit), d) {
			t.Error(bit)
		}
	}
	if e := Rot(d, 0, 7); e.Synced[0].Data[0] != 129 {
		t.Error(e)
	}
}

// P4.5: without power nothing is read, written or synced; with it what stood is there.
func TestP45Down(t *testing.T) {
	r := rand.New(rand.NewSource(5))
	for range 500 {
		d := Crash(some(t, r), r.Intn(4))
		e, err := Write(d, 2000, nil)
		f, err2 := Sync(d)
		if err != api.ErrDown || err2 != api.ErrDown || !reflect.DeepEqual(e, d) || !reflect.DeepEqual(f, d) {
			t.Fatal(err, err2)
		}
		for _, at := range []int{-1, 0, 3, 1000} {
			if b, err := Read(d, at); len(b) != 0 || err != api.ErrDown {
				t.Fatal(at, err)
			}
		}
		if u := Up(d); u.Down || !alike(api.Disk{Synced: d.Synced}, u) {
			t.Fatal(u)
		}
	}
}
