package log

import (
	"math"
	"math/rand"
	"testing"

	"catacomb/api"
)

// terms are entries of these terms, alike where the terms are.
func terms(l ...int) []api.Entry {
	var out []api.Entry
	for _, t := range l {
		out = append(out, api.Entry{Term: t, Data: []byte{byte(t)}})
	}
	return out
}

func many(n int) []api.Entry {
	l := make([]api.Entry, n)
	for i := range l {
		l[i].Term = 1
	}
	return l
}

// P13.1: places and terms.
func TestP131Fits(t *testing.T) {
	l := terms(1, 1, 2)
	for _, x := range []struct {
		at, term int
		fits     bool
	}{{0, 0, true}, {0, 1, false}, {1, 1, true}, {2, 1, true}, {3, 1, false}, {3, 2, true}, {4, 2, false}, {4, 0, false}, {-1, 0, false}, {math.MaxInt, 0, false}, {math.MinInt, 0, false}} {
		if Fits(l, x.at, x.term) != x.fits {
			t.Error(x)
		}
	}
	if !Fits(nil, 0, 0) || Fits(nil, 1, 0) {
		t.Error("of no entries")
	}
}

// P13.1: what is put, by the examples, and at the limit.
func TestP131Put(t *testing.T) {
	l := terms(1, 1, 2)
	other := []api.Entry{{Term: 1, Data: []byte{9}}}
	for i, x := range []struct {
		at, term int
		more     []api.Entry
		want     []api.Entry
		ok       bool
	}{
		{1, 1, terms(1, 3), terms(1, 1, 3), true}, {1, 1, terms(1), l, true}, {0, 0, nil, l, true}, {0, 0, terms(3), terms(3), true}, {3, 2, terms(2, 2), terms(1, 1, 2, 2, 2), true}, {3, 1, terms(2), nil, false}, {4, 2, terms(2), nil, false}, {-1, 0, nil, nil, false},
		{0, 0, other, other, true}, {1, 1, other, append(terms(1), other...), true}, {0, 0, terms(1, 1, 2, 3), terms(1, 1, 2, 3), true}, {2, 1, terms(2), l, true}, {1, 1, nil, l, true}, {0, 1, nil, nil, false},
	} {
		got, ok := Put(l, x.at, x.term, x.more)
		if ok != x.ok || !Same(got, x.want) || !Same(l, terms(1, 1, 2)) {
			t.Errorf("%d: %v, %v", i, got, ok)
		}
	}
	if got, ok := Put(many(498), 498, 1, many(2)); !ok || len(got) != 500 {
		t.Error(ok, len(got))
	}
	if got, ok := Put(many(498), 498, 1, many(3)); ok || len(got) != 0 {
		t.Error(ok, len(got))
	}
	if got, ok := Put(many(500), 400, 1, append(many(99), terms(2, 2)...)); ok || len(got) != 0 {
		t.Error(ok, len(got))
	}
	if got, ok := Put(many(500), 400, 1, append(many(98), terms(2, 2)...)); !ok || len(got) != 500 {
		t.Error(ok, len(got))
	}
	if got, ok := Put([]api.Entry{{Term: 1, Data: []byte{5}}}, 0, 0, []api.Entry{{Term: 2, Data: []byte{5}}}); !ok || len(got) != 1 || got[0].Term != 2 {
		t.Error("the same bytes of another term", got, ok)
	}
	if Same([]api.Entry{{Term: 1}}, []api.Entry{{Term: 2}}) {
		t.Error("entries of unlike terms are the same")
	}
	room := append(make([]api.Entry, 0, 9), l...)
	Put(room, 3, 2, terms(7))
	if room[:4][3].Term != 0 {
		t.Error("what lies behind a row that was handed in is changed")
	}
}

// P13.1: newer ends, commits and what is the same.
func TestP131Others(t *testing.T) {
	l := terms(1, 1, 2)
	for _, x := range []struct {
		term, many int
		newer      bool
	}{{2, 2, false}, {2, 3, true}, {2, 4, true}, {3, 0, true}, {1, 9, false}} {
		if Newer(l, x.term, x.many) != x.newer {
			t.Error(x)
		}
	}
	if !Newer(nil, 0, 0) || !Newer(nil, 1, 0) || Newer(nil, -1, 9) {
		t.Error("of no entries")
	}
	l = terms(1, 1, 2, 2)
	for i, x := range []struct {
		term  int
		match []int
		was   int
		want  int
	}{
		{2, []int{4, 3, 1}, 1, 3}, {2, []int{4, 4, 1}, 1, 4}, {2, []int{4, 2, 1}, 1, 1}, {1, []int{4, 2, 2}, 0, 2}, {1, []int{4, 4, 4}, 0, 2}, {1, []int{4, 4, 4}, 2, 2}, {3, []int{4, 4, 4}, 1, 1}, {2, []int{4, 4, 2, 2}, 0, 0}, {2, []int{4, 4, 3, 2}, 0, 3},
		{2, nil, 1, 1}, {2, []int{9}, 0, 4}, {2, []int{9}, 9, 9}, {2, []int{9}, math.MaxInt, math.MaxInt}, {1, []int{0, 0, 0}, -5, -5}, {0, []int{9}, -5, -5}, {1, []int{9}, math.MinInt, 2}, {2, []int{4, 3, 1}, 3, 3},
	} {
		if got := Commit(l, x.term, x.match, x.was); got != x.want {
			t.Errorf("%d: %d", i, got)
		}
	}
	if !Same(nil, []api.Entry{}) || Same(l, l[:3]) || Same(l[:3], l) || Same(terms(1), terms(2)) || Same(terms(1), []api.Entry{{Term: 1}}) || !Same([]api.Entry{{Term: 1}}, []api.Entry{{Term: 1, Data: []byte{}}}) {
		t.Error("Same")
	}
}

// some is a log whose terms never fall; entries of one place and term may be unlike.
func some(r *rand.Rand, n int) []api.Entry {
	var l []api.Entry
	term := 1
	for range r.Intn(n) {
		term += r.Intn(2)
		l = append(l, api.Entry{Term: term, Data: []byte{byte(r.Intn(2))}})
	}
	return l
}

// P13.2: what was put stands there, what stood ahead stays; again, or its beginning, it changes nothing.
func TestP132Put(t *testing.T) {
	r := rand.New(rand.NewSource(1))
	for range 5000 {
		l, more := some(r, 8), some(r, 8)
		at := r.Intn(len(l) + 1)
		got, ok := Put(l, at, termAt(l, at), more)
		if !ok || !Same(got[:at], l[:at]) || !Same(got[at:at+len(more)], more) {
			t.Fatal(l, at, more, got)
		}
		if rest := got[at+len(more):]; len(rest) > 0 && !Same(got, l) {
			t.Fatal(l, at, more, got)
		}
		for n := range len(more) + 1 {
			if again, ok := Put(got, at, termAt(l, at), more[:n]); !ok || !Same(again, got) {
				t.Fatal(l, at, more, again)
			}
		}
	}
}

func meet(a []api.Entry, b []api.Entry) bool {
	for p := min(len(a), len(b)); p > 0; p-- {
		if a[p-1].Term == b[p-1].Term && !Same(a[:p], b[:p]) {
			return false
		}
	}
	return true
}

// P13.3: a log that meets a leader's, and is put what that one has, meets it still, and has all up to there.
func TestP133Meet(t *testing.T) {
	r := rand.New(rand.NewSource(2))
	tried := 0
	for range 40000 {
		l, leader := some(r, 7), some(r, 7)
		if !meet(l, leader) {
			continue
		}
		from := r.Intn(len(leader) + 1)
		to := from + r.Intn(len(leader)-from+1)
		got, ok := Put(l, from, termAt(leader, from), leader[from:to])
		if !ok {
			continue
		}
		tried++
		if !meet(got, leader) || len(got) < to || !Same(got[:to], leader[:to]) {
			t.Fatal(l, leader, from, to, got)
		}
	}
	if tried < 1000 {
		t.Error(tried)
	}
}

// P13.4: of two ends one is newer, or both are; newer than newer is newer.
func TestP134Newer(t *testing.T) {
	r := rand.New(rand.NewSource(3))
	newer := func(a []api.Entry, b []api.Entry) bool { return Newer(b, termAt(a, len(a)), len(a)) }
	for range 20000 {
		a, b, c := some(r, 5), some(r, 5), some(r, 5)
		if !newer(a, b) && !newer(b, a) || newer(a, b) && newer(b, c) && !newer(a, c) || !newer(a, a) {
			t.Fatal(a, b, c)
		}
		if newer(a, b) && newer(b, a) != (len(a) == len(b) && termAt(a, len(a)) == termAt(b, len(b))) {
			t.Fatal(a, b)
		}
	}
}

// P13.5: what is committed is no less than it was, of the leader's term, and stands with more than half.
func TestP135Committed(t *testing.T) {
	r := rand.New(rand.NewSource(4))
	for range 20000 {
		l := some(r, 9)
		match, more := make([]int, 1+r.Intn(7)), make([]int, 7)
		for i := range match {
			match[i] = r.Intn(len(l) + 1)
			more[i] = match[i] + r.Intn(3)
		}
		term, was := 1+r.Intn(5), r.Intn(len(l)+1)
		got := Commit(l, term, match, was)
		with := func(p int) int {
			n := 0
			for _, m := range match {
				if m >= p {
					n++
				}
			}
			return n
		}
		if got < was || got > len(l) || got > was && (l[got-1].Term != term || with(got) <= len(match)/2) {
			t.Fatal(l, term, match, was, got)
		}
		for p := got + 1; p <= len(l); p++ {
			if l[p-1].Term == term && with(p) > len(match)/2 {
				t.Fatal(l, term, match, was, got, p)
			}
		}
		if Commit(l, term, more[:len(match)], was) < got {
			t.Fatal("more matches, less committed")
		}
		for p := 1; p <= len(l); p++ { // two groups of more than half share one
			for q := 1; q <= p; q++ {
				if with(p) > len(match)/2 && with(q) > len(match)/2 {
					shared := 0
					for _, m := range match {
						if m >= p && m >= q {
							shared++
						}
					}
					if shared == 0 {
						t.Fatal("two groups share none")
					}
				}
			}
		}
	}
}
