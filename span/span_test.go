package span

import (
	"math"
	"math/rand"
	"slices"
	"testing"

	"catacomb/api"
)

const top = 1 << 40

func sp(l ...int) []api.Span {
	var out []api.Span
	for i := 0; i+1 < len(l); i += 2 {
		out = append(out, api.Span{From: l[i], To: l[i+1]})
	}
	return out
}

// P21.1: the examples, and the edges.
func TestP211Rows(t *testing.T) {
	for i, x := range [][2][]api.Span{
		{Norm(sp(3, 5, 1, 3, 9, 9)), sp(1, 5)}, {Cut(sp(0, 10), sp(3, 5)), sp(0, 3, 5, 10)}, {Meet(sp(0, 4, 6, 8), sp(3, 7)), sp(3, 4, 6, 7)},
		{Norm(nil), nil}, {Norm(sp(5, 3)), nil}, {Norm(sp(-5, 3)), sp(0, 3)}, {Norm(sp(-5, 0)), nil}, {Norm(sp(top-1, top+9)), sp(top-1, top)}, {Norm(sp(top, top+9)), nil}, {Norm(sp(math.MinInt, math.MaxInt)), sp(0, top)},
		{Norm(sp(1, 2, 1, 2, 1, 2)), sp(1, 2)}, {Norm(sp(1, 9, 3, 4)), sp(1, 9)}, {Norm(sp(1, 3, 4, 5)), sp(1, 3, 4, 5)}, {Norm(sp(1, 3, 3, 5)), sp(1, 5)}, {Norm(sp(3, 5, 1, 3)), sp(1, 5)}, {Norm(sp(7, 8, 1, 2, 4, 5)), sp(1, 2, 4, 5, 7, 8)},
		{Add(sp(1, 3), sp(3, 5)), sp(1, 5)}, {Add(sp(1, 3), sp(4, 5)), sp(1, 3, 4, 5)}, {Add(nil, sp(4, 5)), sp(4, 5)}, {Cut(sp(1, 3), sp(1, 3)), nil}, {Cut(sp(1, 3), sp(3, 4)), sp(1, 3)}, {Cut(sp(1, 3), sp(0, 2)), sp(2, 3)}, {Cut(nil, sp(0, 2)), nil}, {Cut(sp(1, 3, 2, 6), sp(2, 4)), sp(1, 2, 4, 6)}, {Cut(sp(1, 5), sp(5, 4)), sp(1, 5)},
		{Meet(sp(1, 3), sp(3, 5)), nil}, {Meet(sp(1, 3), nil), nil}, {Meet(sp(0, 9), sp(1, 2, 2, 3, 5, 6)), sp(1, 3, 5, 6)}, {Meet(sp(1, 3, 3, 5), sp(0, 9)), sp(1, 5)}, {Meet(sp(-9, 4), sp(-3, 2)), sp(0, 2)},
	} {
		if !slices.Equal(x[0], x[1]) {
			t.Errorf("%d: %v, not %v", i, x[0], x[1])
		}
	}
	for at, want := range map[int]bool{-1: false, 0: true, 2: true, 3: false, 4: false, 5: true, 6: false, top - 1: true, top: false, math.MaxInt: false, math.MinInt: false} {
		if Has(sp(-5, 3, 5, 6, 5, 6, 9, 7, top-1, math.MaxInt), at) != want {
			t.Error(at)
		}
	}
	for i, x := range [][2]int{{Size(nil), 0}, {Size(sp(1, 3, 2, 5, 7, 7)), 4}, {Size(sp(math.MinInt, math.MaxInt)), top}, {Size(sp(-3, 2)), 2}, {Size(sp(5, 2)), 0}} {
		if x[0] != x[1] {
			t.Errorf("%d: %d", i, x[0])
		}
	}
}

func some(r *rand.Rand) []api.Span {
	var l []api.Span
	for range r.Intn(5) {
		from := r.Intn(24) - 3
		l = append(l, api.Span{From: from, To: from + r.Intn(8) - 2})
	}
	return l
}

// in is whether a place is in spans, by words.
func in(l []api.Span, at int) bool {
	for _, s := range l {
		if at >= 0 && s.From <= at && at < s.To {
			return true
		}
	}
	return false
}

func inOrder(l []api.Span) bool {
	for i, s := range l {
		if s.From < 0 || s.To > top || s.From >= s.To || i > 0 && s.From <= l[i-1].To {
			return false
		}
	}
	return true
}

// P21.2: what is told is in order, and the one row of its places.
func TestP212Order(t *testing.T) {
	r := rand.New(rand.NewSource(1))
	for range 5000 {
		a, b := some(r), some(r)
		for i, l := range [][]api.Span{Norm(a), Add(a, b), Cut(a, b), Meet(a, b)} {
			if !inOrder(l) || !slices.Equal(Norm(l), l) {
				t.Fatal(i, a, b, l)
			}
		}
		was := Norm(a)
		r.Shuffle(len(a), func(i, j int) { a[i], a[j] = a[j], a[i] })
		if !slices.Equal(Norm(a), was) || !slices.Equal(was, Norm(append(a, a...))) {
			t.Fatal(a)
		}
	}
}

// P21.3: places go together as sets do.
func TestP213Sets(t *testing.T) {
	r := rand.New(rand.NewSource(2))
	for range 5000 {
		a, b := some(r), some(r)
		n, add, cut, meet := Norm(a), Add(a, b), Cut(a, b), Meet(a, b)
		for at := -4; at < 40; at++ {
			x, y := in(a, at), in(b, at)
			if in(n, at) != x || in(add, at) != (x || y) || in(cut, at) != (x && !y) || in(meet, at) != (x && y) || Has(a, at) != x {
				t.Fatal(a, b, at)
			}
		}
		if len(Meet(cut, meet)) != 0 || !slices.Equal(Add(cut, meet), n) || !slices.Equal(add, Add(b, a)) || !slices.Equal(meet, Meet(b, a)) || !slices.Equal(Add(add, b), add) {
			t.Fatal(a, b)
		}
	}
}

// P21.4: sizes of what is apart add up.
func TestP214Size(t *testing.T) {
	r := rand.New(rand.NewSource(3))
	for range 5000 {
		a, b := some(r), some(r)
		if Size(a) != Size(Cut(a, b))+Size(Meet(a, b)) || Size(Add(a, b)) != Size(Cut(a, b))+Size(b) {
			t.Fatal(a, b)
		}
		n := 0
		for at := range 40 {
			if in(a, at) {
				n++
			}
		}
		if Size(a) != n {
			t.Fatal(a, Size(a), n)
		}
	}
}
