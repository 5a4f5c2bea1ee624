package member

import (
	"bytes"
	"math"
	"math/bits"
	"math/rand"
	"reflect"
	"slices"
	"testing"

	"catacomb/api"
	"catacomb/log"
)

func e(term int, data ...byte) api.Entry { return api.Entry{Term: term, Data: data} }

func base(many int, term int, peers ...int) api.Base {
	return api.Base{Many: many, Term: term, Peers: peers, Data: []byte{1}}
}

// P16.1: which seats may be a group's, and memberships.
func TestP161Right(t *testing.T) {
	for i, x := range []struct {
		peers []int
		right bool
	}{{nil, false}, {[]int{0}, true}, {[]int{199}, true}, {[]int{200}, false}, {[]int{-1, 3}, false}, {[]int{1, 2, 3}, true}, {[]int{1, 1}, false}, {[]int{2, 1}, false}, {[]int{0, 1, 2, 3, 4, 5, 6}, true}, {[]int{0, 1, 2, 3, 4, 5, 6, 7}, false}} {
		if Right(x.peers) != x.right {
			t.Errorf("%d", i)
		}
		if x.right {
			m := Entry(4, x.peers)
			if peers, ok := Of(m); m.Term != 4 || m.Data[0] != 77 || len(m.Data) != 1+len(x.peers) || !ok || !slices.Equal(peers, x.peers) {
				t.Error(m)
			}
		}
	}
	if m := Entry(9, []int{0, 65, 199}); !reflect.DeepEqual(m, e(9, 77, 0, 65, 199)) {
		t.Error(m)
	}
	for _, m := range []api.Entry{e(1), e(1, 77), e(1, 78, 1), e(1, 77, 200), e(1, 77, 2, 1), e(1, 77, 1, 1), e(1, 77, 0, 1, 2, 3, 4, 5, 6, 7), e(1, 1, 77)} {
		if peers, ok := Of(m); ok || len(peers) != 0 {
			t.Error(m)
		}
	}
}

// P16.1: whose seats a log tells, and where.
func TestP161Peers(t *testing.T) {
	b := base(10, 2, 4, 5)
	l := []api.Entry{e(2, 1), e(2, 77, 1, 2), e(3, 77), e(3, 77, 1, 2, 3), e(3, 5)}
	for n, want := range map[int]struct {
		peers []int
		place int
	}{0: {[]int{4, 5}, 0}, 1: {[]int{4, 5}, 0}, 2: {[]int{1, 2}, 12}, 3: {[]int{1, 2}, 12}, 4: {[]int{1, 2, 3}, 14}, 5: {[]int{1, 2, 3}, 14}} {
		if peers, place := Peers(b, l[:n]); !slices.Equal(peers, want.peers) || place != want.place {
			t.Error(n, peers, place)
		}
	}
}

// P16.1: the next membership: errors, in order, and one seat more or less.
func TestP161Next(t *testing.T) {
	b := base(10, 2, 4, 5)
	l := []api.Entry{e(2, 1), e(2, 77, 1, 3), e(3, 1)}
	seven := []api.Entry{e(2, 77, 0, 1, 2, 3, 4, 5, 6)}
	for i, x := range []struct {
		l                 []api.Entry
		commit, term, who int
		want              api.Entry
		err               api.Errno
	}{
		{l, 11, 9, -1, api.Entry{}, api.ErrArg}, {l, 11, 9, 200, api.Entry{}, api.ErrArg}, {l, 11, 2, 7, api.Entry{}, api.ErrAhead}, {l, 12, 3, 7, api.Entry{}, api.ErrAhead}, {l, 12, 2, 7, e(2, 77, 1, 3, 7), 0}, {l, 13, 3, 2, e(3, 77, 1, 2, 3), 0}, {l, 13, 3, 0, e(3, 77, 0, 1, 3), 0}, {l, 13, 3, 199, e(3, 77, 1, 3, 199), 0}, {l, 13, 3, 1, e(3, 77, 3), 0}, {l, 13, 3, 3, e(3, 77, 1), 0},
		{nil, 10, 2, 6, e(2, 77, 4, 5, 6), 0}, {nil, 10, 1, 6, api.Entry{}, api.ErrAhead}, {seven, 11, 2, 7, api.Entry{}, api.ErrMany}, {seven, 11, 2, 6, e(2, 77, 0, 1, 2, 3, 4, 5), 0}, {seven, 11, 1, 7, api.Entry{}, api.ErrAhead}, {[]api.Entry{e(2, 77, 9)}, 11, 2, 9, api.Entry{}, api.ErrMany}, {[]api.Entry{e(2, 77, 9)}, 11, 2, 8, e(2, 77, 8, 9), 0},
	} {
		got, err := Next(b, x.l, x.commit, x.term, x.who)
		if err != x.err || !reflect.DeepEqual(got, x.want) {
			t.Errorf("%d: %v, %d", i, got, err)
		}
	}
	if !slices.Equal(b.Peers, []int{4, 5}) || !bytes.Equal(l[1].Data, []byte{77, 1, 3}) {
		t.Error("what was handed in is changed")
	}
}

// set are the places of the bits of b.
func set(b int) []int {
	var l []int
	for i := range 10 {
		if b>>i&1 == 1 {
			l = append(l, i)
		}
	}
	return l
}

// slowMeet is P4 by its words.
func slowMeet(a int, b int) bool {
	for x := a; ; x = (x - 1) & a {
		for y := b; ; y = (y - 1) & b {
			if 2*bits.OnesCount(uint(x)) > bits.OnesCount(uint(a)) && 2*bits.OnesCount(uint(y)) > bits.OnesCount(uint(b)) && x&y == 0 {
				return false
			}
			if y == 0 {
				break
			}
		}
		if x == 0 {
			return true
		}
	}
}

// P16.1: which seats' majorities meet.
func TestP161Meet(t *testing.T) {
	if !Meet([]int{1, 2, 3}, []int{1, 2, 3, 4}) || Meet([]int{1, 2}, []int{3, 4}) {
		t.Error("examples")
	}
	for a := 1; a < 64; a++ {
		for b := 1; b < 64; b++ {
			if Meet(set(a), set(b)) != slowMeet(a, b) {
				t.Fatal(set(a), set(b))
			}
		}
	}
}

// P16.1: what is cut, fits, is put and handed, at the edges.
func TestP161Base(t *testing.T) {
	b := base(10, 2, 4, 5)
	l := []api.Entry{e(2, 1), e(2, 77, 1, 3), e(3, 2)}
	for _, upto := range []int{9, 14, -1, 0, math.MaxInt, math.MinInt} {
		if c, m, ok := Cut(b, l, upto, []byte{7}); ok || !reflect.DeepEqual(c, b) || !log.Same(m, l) {
			t.Error(upto, c, m)
		}
	}
	for upto, want := range map[int]api.Base{10: {Many: 10, Term: 2, Peers: []int{4, 5}, Data: []byte{7}}, 11: {Many: 11, Term: 2, Peers: []int{4, 5}, Data: []byte{7}}, 12: {Many: 12, Term: 2, Peers: []int{1, 3}, Data: []byte{7}}, 13: {Many: 13, Term: 3, Peers: []int{1, 3}, Data: []byte{7}}} {
		if c, m, ok := Cut(b, l, upto, []byte{7}); !ok || !reflect.DeepEqual(c, want) || !log.Same(m, l[upto-10:]) {
			t.Error(upto, c, m)
		}
	}
	for _, x := range []struct {
		at, term int
		fits     bool
	}{{9, 2, false}, {10, 2, true}, {10, 0, false}, {11, 2, true}, {13, 3, true}, {13, 2, false}, {14, 3, false}, {0, 0, false}, {math.MinInt, 0, false}, {math.MaxInt, 0, false}} {
		if Fits(b, l, x.at, x.term) != x.fits {
			t.Error(x)
		}
	}
	for i, x := range []struct {
		at, term int
		more     []api.Entry
		want     []api.Entry
		ok       bool
	}{
		{13, 3, []api.Entry{e(4)}, append(slices.Clone(l), e(4)), true}, {13, 2, []api.Entry{e(4)}, nil, false}, {14, 3, nil, nil, false}, {10, 2, []api.Entry{e(4)}, []api.Entry{e(4)}, true}, {10, 0, []api.Entry{e(4)}, nil, false}, {11, 2, []api.Entry{l[1]}, l, true}, {10, 2, nil, l, true},
		{9, 7, []api.Entry{e(9)}, l, true}, {9, 7, nil, l, true}, {0, 0, []api.Entry{e(9)}, l, true}, {9, 7, []api.Entry{e(2), e(4)}, []api.Entry{e(4)}, true}, {9, 7, []api.Entry{e(1), e(4)}, nil, false}, {8, 1, []api.Entry{e(9), e(2), l[0]}, l, true}, {8, 1, []api.Entry{e(2), e(9), l[0]}, nil, false},
	} {
		got, ok := Put(b, l, x.at, x.term, x.more)
		if ok != x.ok || !log.Same(got, x.want) {
			t.Errorf("%d: %v, %v", i, got, ok)
		}
	}
	full := slices.Repeat([]api.Entry{e(2)}, 500)
	if got, ok := Put(b, full, 510, 2, []api.Entry{e(2)}); ok || len(got) != 0 {
		t.Error("501 entries")
	}
	if got, ok := Put(b, full[:499], 509, 2, []api.Entry{e(2)}); !ok || len(got) != 500 {
		t.Error("500 entries")
	}
	for i, x := range []struct {
		from api.Base
		want api.Base
		left []api.Entry
	}{{base(9, 2, 8), b, l}, {base(10, 9, 8), b, l}, {base(11, 2, 8), base(11, 2, 8), l[1:]}, {base(11, 3, 8), base(11, 3, 8), nil}, {base(13, 3, 8), base(13, 3, 8), nil}, {base(12, 2, 8), base(12, 2, 8), l[2:]}, {base(20, 3, 8), base(20, 3, 8), nil}} {
		if c, m := Hand(b, l, x.from); !reflect.DeepEqual(c, x.want) || !log.Same(m, x.left) {
			t.Errorf("%d: %v, %v", i, c, m)
		}
	}
}

// someLog is a whole log, with memberships in it.
func someLog(r *rand.Rand) []api.Entry {
	var l []api.Entry
	term := 1
	for range r.Intn(12) {
		term += r.Intn(2)
		switch r.Intn(3) {
		case 0:
			l = append(l, Entry(term, set(1+r.Intn(63))))
		default:
			l = append(l, e(term, byte(r.Intn(2))))
		}
	}
	return l
}

// P16.2: seats that differ by one, and what Next tells, have majorities that meet.
func TestP162Meet(t *testing.T) {
	r := rand.New(rand.NewSource(1))
	for range 5000 {
		peers := set(1 + r.Intn(255))
		if len(peers) > 7 {
			continue
		}
		b := api.Base{Many: 3, Term: 2, Peers: peers}
		who := r.Intn(9)
		n, err := Next(b, nil, 3, 2, who)
		if err != api.OK {
			continue
		}
		next, ok := Of(n)
		if !ok || !Meet(peers, next) || !Meet(next, peers) || slices.Contains(peers, who) == slices.Contains(next, who) || max(len(peers), len(next))-min(len(peers), len(next)) != 1 {
			t.Fatal(peers, who, next)
		}
	}
}

// P16.3: what is cut changes no seats, and nothing that fits, or is put, from there on.
func TestP163Gone(t *testing.T) {
	r := rand.New(rand.NewSource(2))
	for range 5000 {
		l := someLog(r)
		b := api.Base{Peers: []int{1, 2, 3}}
		upto := r.Intn(len(l) + 1)
		c, m, ok := Cut(b, l, upto, nil)
		if !ok {
			t.Fatal(upto)
		}
		was, place := Peers(b, l)
		now, at := Peers(c, m)
		if !slices.Equal(was, now) || at != place && (at != 0 || place > upto) {
			t.Fatal(l, upto, was, now)
		}
		again := upto + r.Intn(len(l)-upto+1)
		c1, m1, _ := Cut(c, m, again, nil)
		if c2, m2, _ := Cut(b, l, again, nil); !reflect.DeepEqual(c1, c2) || !log.Same(m1, m2) {
			t.Fatal("cut twice")
		}
		for p := upto; p <= len(l)+1; p++ {
			for term := range 8 {
				if Fits(b, l, p, term) != Fits(c, m, p, term) {
					t.Fatal(p, term)
				}
				more := someLog(r)
				x, ok1 := Put(b, l, p, term, more)
				y, ok2 := Put(c, m, p, term, more)
				if ok1 != ok2 || ok1 && !log.Same(x[upto:], y) {
					t.Fatal(p, term, more, x, y)
				}
			}
		}
	}
}

// P16.4: who is handed a log's base, and put what is behind it, has that log.
func TestP164Handed(t *testing.T) {
	r := rand.New(rand.NewSource(3))
	for range 5000 {
		leader := someLog(r)
		b := api.Base{Peers: []int{1, 2, 3}}
		upto := r.Intn(len(leader) + 1)
		lb, ll, _ := Cut(b, leader, upto, []byte{5})
		shared := r.Intn(len(leader) + 1)
		own := slices.Clone(leader[:shared]) // a log that meets the leader's, and of which what is gone is the leader's, too
		if r.Intn(2) == 0 {
			own = append(own, e(99))
		}
		ob, ol, _ := Cut(b, own, r.Intn(shared+1), nil)
		hb, hl := Hand(ob, ol, lb)
		got, ok := Put(hb, hl, upto, lb.Term, ll)
		if !ok {
			t.Fatal("not put", ob, ol, lb, ll)
		}
		for p := max(hb.Many, upto) + 1; p <= len(leader); p++ {
			if x := got[p-hb.Many-1]; !log.Same([]api.Entry{x}, leader[p-1:p]) {
				t.Fatal(p, got, leader)
			}
		}
		if hb.Many < upto && !Fits(hb, got, upto, lb.Term) || ob.Many < upto && !reflect.DeepEqual(hb, lb) {
			t.Fatal(hb, lb)
		}
		if ob.Many < upto && len(own) <= len(leader) && !slices.ContainsFunc(own, func(x api.Entry) bool { return x.Term == 99 }) && !log.Same(got, ll) {
			t.Fatal(got, ll)
		}
	}
}
