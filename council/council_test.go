package council

import (
	"fmt"
	"math"
	"math/rand"
	"reflect"
	"slices"
	"testing"

	"catacomb/api"
	"catacomb/log"
	"catacomb/seat"
	"catacomb/wire"
)

func act1(do int, who int) api.Act { return api.Act{Do: do, Who: who, Fate: api.Pass} }

func take1(at int) api.Act { return api.Act{Do: api.ActTake, At: at, Fate: api.Pass} }

// elected is a council of 3 of which seat 0 leads, with what it told under way.
func elected() api.Council {
	return Run(New(3), []api.Act{act1(api.ActLate, 0), take1(0), take1(0), take1(0), take1(0)})
}

// P17.1: the examples.
func TestP171Examples(t *testing.T) {
	c := Run(New(3), []api.Act{act1(api.ActLate, 0), take1(0), take1(1), take1(0)})
	if !slices.Equal(Leaders(c), []int{0}) {
		t.Error(Leaders(c), c)
	}
	c = Run(New(1), []api.Act{act1(api.ActLate, 0), {Do: api.ActOffer, Data: []byte("x")}})
	if l := Agreed(c); !log.Same(l, []api.Entry{{Term: 1, Data: []byte("x")}}) {
		t.Error(l)
	}
}

// P17.1: new councils, and which are right.
func TestP171Right(t *testing.T) {
	for n := -1; n <= 8; n++ {
		c := New(n)
		if ok := n >= 1 && n <= 7; Right(c) != ok || len(c.Seats) != len(c.Gone) || ok && len(c.Seats) != n || !ok && !reflect.DeepEqual(c, api.Council{}) {
			t.Error(n, c)
		}
	}
	full := slices.Repeat([]api.Msg{{From: 99, To: 77}}, 200)
	for i, x := range []struct {
		with  func(c *api.Council)
		right bool
	}{
		{func(c *api.Council) {}, true}, {func(c *api.Council) { c.Wire = full }, true}, {func(c *api.Council) { c.Wire = append(full, full...) }, false}, {func(c *api.Council) { c.Gone = c.Gone[1:] }, false}, {func(c *api.Council) { c.Gone = append(c.Gone, false) }, false},
		{func(c *api.Council) { c.Gone[0] = true }, false}, {func(c *api.Council) { c.Gone[1] = true }, true}, {func(c *api.Council) { c.Seats[0], c.Seats[1] = c.Seats[1], c.Seats[0] }, false}, {func(c *api.Council) { c.Seats[2].Voted = 7 }, false}, {func(c *api.Council) { c.Seats[2].Peers = []int{0, 1, 2, 3} }, false}, {func(c *api.Council) { c.Seats[2].Peers = []int{0, 2} }, false}, {func(c *api.Council) { c.Seats[2].Peers = []int{0, 2, 3} }, false},
		{func(c *api.Council) { c.Seats[2].Log = []api.Entry{{Term: 1}}; c.Seats[2].Commit = 1 }, true}, {func(c *api.Council) {
			c.Seats[2].Log = []api.Entry{{Term: 1}}
			c.Seats[2].Commit, c.Gone[2] = 1, true
		}, false},
	} {
		c := Run(elected(), []api.Act{take1(0), take1(0)})
		c.Seats, c.Gone = slices.Clone(c.Seats), slices.Clone(c.Gone)
		x.with(&c)
		if Right(c) != x.right {
			t.Errorf("%d: %v", i, !x.right)
		}
	}
}

// P17.1: each act: when it may be, and what it leaves.
func TestP171Acts(t *testing.T) {
	c := elected()
	if len(c.Wire) != 2 || c.Wire[0].Kind != api.MsgPut {
		t.Fatal(c.Wire)
	}
	gone := Run(c, []api.Act{act1(api.ActCrash, 2)})
	stray := c
	stray.Wire = append(slices.Clone(c.Wire), api.Msg{From: 0, To: 3}, api.Msg{From: 0, To: -1})
	for i, x := range []struct {
		c    api.Council
		a    api.Act
		ok   bool
		with func(c *api.Council)
	}{
		{c, api.Act{Do: 0}, false, nil}, {c, api.Act{Do: 9}, false, nil}, {c, api.Act{Do: -1}, false, nil}, {c, api.Act{Do: math.MaxInt}, false, nil},
		{c, take1(2), false, nil}, {c, take1(-1), false, nil}, {c, api.Act{Do: api.ActLose, At: 2}, false, nil}, {c, api.Act{Do: api.ActLose, At: -1}, false, nil}, {c, api.Act{Do: api.ActLose, At: 1, Who: 99}, true, func(c *api.Council) { c.Wire = c.Wire[:1] }},
		{c, api.Act{Do: api.ActTake, At: 0, Who: 99, Fate: api.Pass}, true, func(c *api.Council) {
			s, out := seat.Hear(c.Seats[1], c.Wire[0])
			c.Seats = with(c.Seats, 1, s)
			c.Wire = wire.Send(c.Wire[1:], out[0], api.Pass)
		}},
		{c, api.Act{Do: api.ActTake, At: 0, Fate: api.Late}, true, func(c *api.Council) {
			s, out := seat.Hear(c.Seats[1], c.Wire[0])
			c.Seats = with(c.Seats, 1, s)
			c.Wire = []api.Msg{out[0], c.Wire[1]}
		}},
		{gone, take1(1), true, func(c *api.Council) { c.Wire = c.Wire[:1] }}, {stray, take1(2), true, func(c *api.Council) { c.Wire = slices.Delete(slices.Clone(c.Wire), 2, 3) }}, {stray, take1(3), true, func(c *api.Council) { c.Wire = c.Wire[:3] }},
		{c, act1(api.ActLate, 3), false, nil}, {c, act1(api.ActLate, -1), false, nil}, {gone, act1(api.ActLate, 2), false, nil}, {c, act1(api.ActLate, 0), true, func(c *api.Council) {}}, {c, act1(api.ActLate, 1), true, func(c *api.Council) {
			s, out := seat.Late(c.Seats[1])
			c.Seats = with(c.Seats, 1, s)
			c.Wire = append(slices.Clone(c.Wire), out...)
		}},
		{c, api.Act{Do: api.ActLate, Who: 1, Fate: api.Lose}, true, func(c *api.Council) { s, _ := seat.Late(c.Seats[1]); c.Seats = with(c.Seats, 1, s) }},
		{c, act1(api.ActBeat, 1), false, nil}, {c, act1(api.ActBeat, 3), false, nil}, {gone, act1(api.ActBeat, 2), false, nil}, {c, api.Act{Do: api.ActBeat, Fate: api.Twin}, true, func(c *api.Council) {
			w := c.Wire
			c.Wire = []api.Msg{w[0], w[1], w[0], w[0], w[1], w[1]}
		}},
		{c, api.Act{Do: api.ActOffer, Who: 1}, false, nil}, {c, api.Act{Do: api.ActOffer, Who: 7}, false, nil}, {c, api.Act{Do: api.ActOffer, Data: make([]byte, 201)}, false, nil}, {c, api.Act{Do: api.ActOffer, Data: []byte("z")}, true, func(c *api.Council) { s, _, _ := seat.Offer(c.Seats[0], []byte("z")); c.Seats = with(c.Seats, 0, s) }},
		{c, act1(api.ActCrash, 3), false, nil}, {gone, act1(api.ActCrash, 2), false, nil}, {c, act1(api.ActCrash, 0), true, func(c *api.Council) {
			c.Seats, c.Gone = with(c.Seats, 0, seat.Back(c.Seats[0])), []bool{true, false, false}
		}},
		{c, act1(api.ActBack, 2), false, nil}, {gone, act1(api.ActBack, 3), false, nil}, {gone, act1(api.ActBack, 2), true, func(c *api.Council) { c.Gone = []bool{false, false, false} }},
		{c, api.Act{Do: api.ActCut, Who: 99, Side: []int{1}}, true, func(c *api.Council) { c.Wire = c.Wire[1:] }}, {c, api.Act{Do: api.ActCut}, true, func(c *api.Council) {}},
	} {
		want := x.c
		if x.with != nil {
			x.with(&want)
		}
		got, ok := Do(x.c, x.a)
		if ok != x.ok || !reflect.DeepEqual(norm(got), norm(want)) || ok && !Right(got) {
			t.Errorf("%d: %v, %v", i, ok, got)
		}
	}
}

// norm has no empty rows.
func norm(c api.Council) string {
	s := fmt.Sprint(c.Gone, c.Wire)
	for _, x := range c.Seats {
		s += fmt.Sprint(x.Id, x.Peers, x.Term, x.Voted, x.Role, x.Log, x.Commit, x.Votes, x.Next, x.Match, ";")
	}
	return s
}

// P17.1: who leads, what is agreed, and acts in a row.
func TestP171Told(t *testing.T) {
	c := elected()
	gone := Run(c, []api.Act{act1(api.ActCrash, 0)})
	if len(Leaders(gone)) != 0 || len(Leaders(New(3))) != 0 || !slices.Equal(Leaders(c), []int{0}) {
		t.Error("Leaders")
	}
	c = Run(c, []api.Act{{Do: api.ActOffer, Data: []byte("a")}, {Do: api.ActOffer, Who: 2}, act1(api.ActBeat, 0)})
	for len(c.Wire) > 0 {
		c, _ = Do(c, take1(0))
	}
	want := []api.Entry{{Term: 1, Data: []byte("a")}}
	if !log.Same(Agreed(c), want) || c.Seats[1].Commit != 0 && c.Seats[1].Commit != 1 {
		t.Error(Agreed(c))
	}
	if d := Run(c, []api.Act{act1(api.ActCrash, 0)}); len(Agreed(d)) != d.Seats[1].Commit && len(Agreed(d)) != d.Seats[2].Commit {
		t.Error(Agreed(d))
	}
	if d := Run(c, []api.Act{act1(api.ActCrash, 0), act1(api.ActCrash, 1), act1(api.ActCrash, 2)}); len(Agreed(d)) != 0 {
		t.Error(Agreed(d))
	}
	d := New(3)
	d.Seats[1].Log, d.Seats[1].Term, d.Seats[1].Commit = want, 1, 1
	d.Seats[2].Log, d.Seats[2].Term, d.Seats[2].Commit = []api.Entry{{Term: 1, Data: []byte("b")}}, 1, 1
	if !log.Same(Agreed(d), want) {
		t.Error("the first one of the greatest", Agreed(d))
	}
}

// chaos is what befell a council: who led which term, and what was committed.
type chaos struct {
	c         api.Council
	led       map[int]int
	committed []api.Entry
}

func begin(n int) *chaos { return &chaos{c: New(n), led: map[int]int{}} }

func someAct(r *rand.Rand, c api.Council) api.Act {
	a := api.Act{Do: 1, Who: r.Intn(len(c.Seats)), At: r.Intn(len(c.Wire) + 1), Fate: api.Pass, Data: []byte{byte(r.Intn(256))}}
	if r.Intn(5) == 0 {
		a.Fate = r.Intn(6)
	}
	switch k := r.Intn(100); {
	case k < 4:
		a.Do = api.ActLate
	case k < 14:
		a.Do = api.ActBeat
	case k < 22:
		a.Do = api.ActOffer
	case k < 24:
		a.Do = api.ActCrash
	case k < 28:
		a.Do = api.ActBack
	case k < 29:
		a.Do, a.Side = api.ActCut, []int{r.Intn(7), r.Intn(7)}
	case k < 33:
		a.Do = api.ActLose
	}
	return a
}

// step does an act, and tells what it broke.
func (x *chaos) step(a api.Act) string {
	was := x.c
	x.c, _ = Do(x.c, a)
	if !Right(x.c) {
		return "not right"
	}
	for i, s := range x.c.Seats {
		if s.Role == api.Lead {
			if who, had := x.led[s.Term]; had && who != i {
				return fmt.Sprint("two leaders of term ", s.Term)
			}
			if _, had := x.led[s.Term]; !had && (len(s.Log) < len(x.committed) || !log.Same(s.Log[:len(x.committed)], x.committed)) {
				return "a leader has not all that was committed"
			}
			x.led[s.Term] = i
		}
		if wrong := x.commits(s); wrong != "" {
			return wrong
		}
		if x.c.Seats[i].Term < was.Seats[i].Term {
			return "a term fell"
		}
	}
	return ""
}

func (x *chaos) commits(s api.Seat) string {
	mine := s.Log[:s.Commit]
	n := min(len(mine), len(x.committed))
	if !log.Same(mine[:n], x.committed[:n]) {
		return "two rows are committed"
	}
	if len(mine) > n {
		x.committed = slices.Clone(mine)
	}
	return ""
}

func meets(a []api.Entry, b []api.Entry) bool {
	for p := min(len(a), len(b)); p > 0; p-- {
		if a[p-1].Term == b[p-1].Term {
			return log.Same(a[:p], b[:p])
		}
	}
	return true
}

// runs has councils of all sizes befallen by what may be.
func runs(t *testing.T, seed int64, each func(x *chaos)) {
	r := rand.New(rand.NewSource(seed))
	committed := 0
	for i := range 70 {
		x := begin(1 + i%5)
		for range 500 {
			if wrong := x.step(someAct(r, x.c)); wrong != "" {
				t.Fatal(wrong)
			}
			if each != nil {
				each(x)
			}
		}
		committed += len(x.committed)
	}
	if committed < 100 {
		t.Error("nothing happened", committed)
	}
}

// P17.2: no two seats lead in one term.
func TestP172OneLeader(t *testing.T) { runs(t, 1, nil) }

// P17.3: logs of any two seats meet.
func TestP173Meet(t *testing.T) {
	runs(t, 2, func(x *chaos) {
		for i, a := range x.c.Seats {
			for _, b := range x.c.Seats[:i] {
				if !meets(a.Log, b.Log) {
					t.Fatal(a, b)
				}
			}
		}
	})
}

// P17.4: what is committed is one row, and who begins to lead has all of it.
func TestP174Committed(t *testing.T) { runs(t, 3, nil) }

// heard has all messages be heard, in order.
func heard(t *testing.T, x *chaos) {
	for n := 0; len(x.c.Wire) > 0; n++ {
		if n > 20000 {
			t.Fatal("never ends")
		}
		if wrong := x.step(take1(0)); wrong != "" {
			t.Fatal(wrong)
		}
	}
}

// P17.5: when faults cease, a seat whose log is as new as any comes to lead, and what it is offered all commit.
func TestP175Settled(t *testing.T) {
	r := rand.New(rand.NewSource(5))
	for i := range 150 {
		x := begin(1 + i%7)
		for range r.Intn(600) {
			if wrong := x.step(someAct(r, x.c)); wrong != "" {
				t.Fatal(wrong)
			}
		}
		for i := range x.c.Seats {
			x.step(act1(api.ActBack, i))
		}
		heard(t, x)
		who := 0
		for i, s := range x.c.Seats {
			last := 0
			if n := len(s.Log); n > 0 {
				last = s.Log[n-1].Term
			}
			if log.Newer(x.c.Seats[who].Log, last, len(s.Log)) {
				who = i
			}
		}
		settled := func() bool {
			return x.c.Seats[who].Role == api.Lead && !slices.ContainsFunc(x.c.Seats, func(s api.Seat) bool { return s.Term != x.c.Seats[who].Term })
		}
		for range 3 {
			x.step(act1(api.ActBeat, who))
			heard(t, x)
			x.step(act1(api.ActLate, who))
			heard(t, x)
		}
		x.step(act1(api.ActBeat, who))
		heard(t, x)
		if !settled() {
			t.Fatal("nobody leads", norm(x.c))
		}
		x.step(api.Act{Do: api.ActOffer, Who: who, Data: []byte("last")})
		for range 3 {
			x.step(act1(api.ActBeat, who))
			heard(t, x)
		}
		lead := x.c.Seats[who]
		if n := len(lead.Log); n == 0 || string(lead.Log[n-1].Data) != "last" {
			t.Fatal("not offered")
		}
		for _, s := range x.c.Seats {
			if s.Commit != len(lead.Log) || !log.Same(s.Log, lead.Log) {
				t.Fatal("not all commit", norm(x.c))
			}
		}
	}
}
