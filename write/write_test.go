package write

import (
	"bytes"
	"math"
	"math/rand"
	"slices"
	"testing"

	"catacomb/api"
)

func d(ino int, from int, data ...byte) api.Dirty { return api.Dirty{Ino: ino, From: from, Data: data} }

func same(a []api.Dirty, b []api.Dirty) bool {
	return slices.EqualFunc(a, b, func(x, y api.Dirty) bool { return x.Ino == y.Ino && x.From == y.From && bytes.Equal(x.Data, y.Data) })
}

func sameStored(a []api.Stored, b []api.Stored) bool {
	return slices.EqualFunc(a, b, func(x, y api.Stored) bool {
		return x.Ino == y.Ino && x.Epoch == y.Epoch && bytes.Equal(x.Data, y.Data)
	})
}

// P24.1: what is put: the examples, what meets, and what may not be.
func TestP241Put(t *testing.T) {
	big := make([]byte, 4096)
	for i, x := range []struct {
		l    []api.Dirty
		ino  int
		from int
		data []byte
		want []api.Dirty
	}{
		{nil, 5, 2, []byte{1, 2}, []api.Dirty{d(5, 2, 1, 2)}}, {[]api.Dirty{d(5, 2, 1, 2)}, 5, 3, []byte{9, 9}, []api.Dirty{d(5, 2, 1, 9, 9)}}, {[]api.Dirty{d(5, 2, 1, 2)}, 5, 8, []byte{7}, []api.Dirty{d(5, 2, 1, 2), d(5, 8, 7)}},
		{[]api.Dirty{d(5, 2, 1, 2)}, 5, 4, []byte{7}, []api.Dirty{d(5, 2, 1, 2, 7)}}, {[]api.Dirty{d(5, 2, 1, 2)}, 5, 5, []byte{7}, []api.Dirty{d(5, 2, 1, 2), d(5, 5, 7)}}, {[]api.Dirty{d(5, 2, 1, 2)}, 5, 0, []byte{7, 8}, []api.Dirty{d(5, 0, 7, 8, 1, 2)}}, {[]api.Dirty{d(5, 2, 1, 2)}, 5, 0, []byte{7}, []api.Dirty{d(5, 2, 1, 2), d(5, 0, 7)}}, {[]api.Dirty{d(5, 2, 1, 2)}, 5, 1, []byte{7, 8}, []api.Dirty{d(5, 1, 7, 8, 2)}}, {[]api.Dirty{d(5, 2, 1, 2)}, 5, 1, []byte{7, 8, 9, 6}, []api.Dirty{d(5, 1, 7, 8, 9, 6)}}, {[]api.Dirty{d(5, 2, 1, 2, 3)}, 5, 3, []byte{7}, []api.Dirty{d(5, 2, 1, 7, 3)}},
		{[]api.Dirty{d(5, 2, 1), d(6, 2, 1)}, 5, 3, []byte{7}, []api.Dirty{d(5, 2, 1, 7), d(6, 2, 1)}}, {[]api.Dirty{d(5, 2, 1), d(5, 9, 1)}, 5, 3, []byte{7}, []api.Dirty{d(5, 2, 1), d(5, 9, 1), d(5, 3, 7)}}, {[]api.Dirty{d(5, 2, 1)}, 6, 3, []byte{7}, []api.Dirty{d(5, 2, 1), d(6, 3, 7)}},
		{[]api.Dirty{d(5, 2, 1)}, 0, 3, []byte{7}, []api.Dirty{d(5, 2, 1)}}, {[]api.Dirty{d(5, 2, 1)}, 5, -1, []byte{7}, []api.Dirty{d(5, 2, 1)}}, {[]api.Dirty{d(5, 2, 1)}, 5, 3, nil, []api.Dirty{d(5, 2, 1)}}, {nil, 5, 4095, []byte{7}, []api.Dirty{d(5, 4095, 7)}}, {nil, 5, 4096, []byte{7}, nil}, {nil, 5, 4095, []byte{7, 7}, nil}, {nil, 5, math.MaxInt, []byte{7}, nil}, {nil, 5, 0, big, []api.Dirty{d(5, 0, big...)}}, {nil, 5, 1, big, nil}, {nil, 5, math.MinInt, []byte{7}, nil},
	} {
		was := slices.Clone(x.l)
		if got := Put(x.l, x.ino, x.from, x.data); !same(got, x.want) || !same(was, x.l) {
			t.Errorf("%d: %v", i, got)
		}
	}
}

// P24.1: what is next, laid and seen.
func TestP241Lay(t *testing.T) {
	l := []api.Dirty{d(5, 2, 1, 9, 9), d(6, 0, 3), d(5, 8, 7)}
	if x, rest, ok := Next(l); !ok || !same([]api.Dirty{x}, l[:1]) || !same(rest, l[1:]) {
		t.Error(x, rest, ok)
	}
	if x, rest, ok := Next(nil); ok || x.Ino != 0 || len(rest) != 0 {
		t.Error(x, rest)
	}
	for ino, want := range map[int][]byte{5: {4, 4, 1, 9, 9, 0, 0, 0, 7}, 6: {3, 4, 4}, 7: {4, 4, 4}} {
		if got := See(l, ino, []byte{4, 4, 4}); !bytes.Equal(got, want) {
			t.Error(ino, got)
		}
	}
	if got := See([]api.Dirty{d(5, 0, 1, 1), d(5, 1, 2)}, 5, nil); !bytes.Equal(got, []byte{1, 2}) {
		t.Error(got)
	}
	big := make([]byte, 4096)
	file := []byte{4, 4, 4}
	for i, x := range []struct {
		from int
		data []byte
		want []byte
		err  api.Errno
	}{
		{-1, nil, nil, api.ErrArg}, {-1, big, nil, api.ErrArg}, {1, big, nil, api.ErrBig}, {0, big, big, 0}, {4096, []byte{1}, nil, api.ErrBig}, {math.MaxInt, []byte{1}, nil, api.ErrBig}, {math.MaxInt, nil, file, 0}, {9, nil, file, 0}, {1, []byte{8}, []byte{4, 8, 4}, 0}, {5, []byte{8}, []byte{4, 4, 4, 0, 0, 8}, 0}, {3, []byte{8}, []byte{4, 4, 4, 8}, 0},
	} {
		got, err := Lay(file, x.from, x.data)
		if !bytes.Equal(got, x.want) || err != x.err || !bytes.Equal(file, []byte{4, 4, 4}) {
			t.Errorf("%d: %v, %d", i, got, err)
		}
	}
}

// P24.1: what is taken, and epochs.
func TestP241Take(t *testing.T) {
	l := []api.Stored{{Ino: 3, Epoch: 4, Data: []byte{1, 2}}, {Ino: 7}}
	for i, x := range []struct {
		d     api.Dirty
		epoch int
		want  []api.Stored
		err   api.Errno
	}{
		{d(3, 1, 9), 3, l, api.ErrFence}, {d(3, 1, 9), 4, []api.Stored{{Ino: 3, Epoch: 4, Data: []byte{1, 9}}, l[1]}, 0}, {d(3, 4, 9), 6, []api.Stored{{Ino: 3, Epoch: 6, Data: []byte{1, 2, 0, 0, 9}}, l[1]}, 0}, {d(5, 1, 9), 0, []api.Stored{l[0], {Ino: 5, Data: []byte{0, 9}}, l[1]}, 0}, {d(9, 0, 9), 2, []api.Stored{l[0], l[1], {Ino: 9, Epoch: 2, Data: []byte{9}}}, 0}, {d(1, 0, 9), 2, []api.Stored{{Ino: 1, Epoch: 2, Data: []byte{9}}, l[0], l[1]}, 0},
	} {
		got, err := Take(l, x.d, x.epoch)
		if !sameStored(got, x.want) || err != x.err {
			t.Errorf("%d: %v, %d", i, got, err)
		}
	}
	for i, x := range []struct {
		ino, epoch int
		want       []api.Stored
	}{{3, 3, l}, {3, 4, l}, {3, 5, []api.Stored{{Ino: 3, Epoch: 5, Data: []byte{1, 2}}, l[1]}}, {5, 0, []api.Stored{l[0], {Ino: 5}, l[1]}}, {5, 8, []api.Stored{l[0], {Ino: 5, Epoch: 8}, l[1]}}, {9, 1, []api.Stored{l[0], l[1], {Ino: 9, Epoch: 1}}}} {
		if got := Raise(l, x.ino, x.epoch); !sameStored(got, x.want) {
			t.Errorf("%d: %v", i, got)
		}
	}
	if !sameStored(l, []api.Stored{{Ino: 3, Epoch: 4, Data: []byte{1, 2}}, {Ino: 7}}) {
		t.Error("what was handed in is changed")
	}
}

func some(r *rand.Rand) (int, int, []byte) {
	b := make([]byte, r.Intn(5))
	r.Read(b)
	return 1 + r.Intn(2), r.Intn(12), b
}

// P24.2: a client sees what it wrote; as it is written back, piece by piece, it sees the same, and at last the file is that.
func TestP242Seen(t *testing.T) {
	r := rand.New(rand.NewSource(1))
	for range 2000 {
		var l []api.Dirty
		file := map[int][]byte{1: {1, 2, 3}, 2: {4}}
		want := map[int][]byte{1: {1, 2, 3}, 2: {4}}
		for range r.Intn(12) {
			if x, rest, ok := Next(l); ok && r.Intn(3) == 0 {
				file[x.Ino], _ = Lay(file[x.Ino], x.From, x.Data)
				l = rest
			}
			ino, from, b := some(r)
			l = Put(l, ino, from, b)
			want[ino], _ = Lay(want[ino], from, b)
			for i := range 2 {
				if got := See(l, i+1, file[i+1]); !bytes.Equal(got, want[i+1]) {
					t.Fatal(l, got, want)
				}
			}
			for _, p := range l {
				if !mayBe(p) {
					t.Fatal("not right", p)
				}
			}
		}
		for x, rest, ok := Next(l); ok; x, rest, ok = Next(l) {
			file[x.Ino], _ = Lay(file[x.Ino], x.From, x.Data)
			l = rest
			for i := range 2 {
				if got := See(l, i+1, file[i+1]); !bytes.Equal(got, want[i+1]) {
					t.Fatal("seen otherwise", l, got, want)
				}
			}
		}
		if !bytes.Equal(file[1], want[1]) || !bytes.Equal(file[2], want[2]) {
			t.Fatal(file, want)
		}
	}
}

// P24.3: if a client crashes ahead of some pieces, each file is as some beginning of what was written left it.
func TestP243Lost(t *testing.T) {
	r := rand.New(rand.NewSource(2))
	for range 2000 {
		var l []api.Dirty
		file := map[int][]byte{}
		states := map[int][][]byte{1: {nil}, 2: {nil}}
		for range r.Intn(12) {
			ino, from, b := some(r)
			l = Put(l, ino, from, b)
			s := states[ino]
			next, _ := Lay(s[len(s)-1], from, b)
			states[ino] = append(s, next)
			if x, rest, ok := Next(l); ok && r.Intn(3) == 0 {
				file[x.Ino], _ = Lay(file[x.Ino], x.From, x.Data)
				l = rest
			}
		}
		for ino := range 2 {
			if !slices.ContainsFunc(states[ino+1], func(s []byte) bool { return bytes.Equal(s, file[ino+1]) }) {
				t.Fatal(ino+1, file, states)
			}
		}
	}
}

// P24.4: whoever is behind an epoch changes nothing; an epoch never falls; other files play no part.
func TestP244Fenced(t *testing.T) {
	r := rand.New(rand.NewSource(3))
	for range 300 {
		var l []api.Stored
		epochs := map[int]int{}
		for range 40 {
			ino, from, b := some(r)
			epoch := r.Intn(8)
			x := d(ino, from, append(b, 1)...)
			was := slices.Clone(l)
			if r.Intn(3) == 0 {
				l = Raise(l, ino, epoch)
				epochs[ino] = max(epochs[ino], epoch)
			} else {
				var err api.Errno
				l, err = Take(l, x, epoch)
				if (err != api.OK) != (epoch < epochs[ino]) || err != api.OK && (err != api.ErrFence || !sameStored(l, was)) {
					t.Fatal(ino, epoch, epochs, err)
				}
				if err == api.OK {
					epochs[ino] = epoch
				}
			}
			for i, s := range l {
				if s.Epoch != epochs[s.Ino] || i > 0 && l[i-1].Ino >= s.Ino {
					t.Fatal(l, epochs)
				}
				if at := slices.IndexFunc(was, func(w api.Stored) bool { return w.Ino == s.Ino }); s.Ino != ino && !sameStored(was[at:at+1], l[i:i+1]) {
					t.Fatal("another file is changed")
				}
			}
		}
	}
}
