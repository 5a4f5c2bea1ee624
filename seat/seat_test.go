package seat

import (
	"fmt"
	"math"
	"math/rand"
	"reflect"
	"slices"
	"testing"

	"catacomb/api"
	"catacomb/log"
)

// same: are seats alike, nil and empty rows too?
func same(a api.Seat, b api.Seat) bool {
	return a.Id == b.Id && slices.Equal(a.Peers, b.Peers) && a.Term == b.Term && a.Voted == b.Voted && a.Role == b.Role && log.Same(a.Log, b.Log) && a.Commit == b.Commit &&
		slices.Equal(a.Votes, b.Votes) && slices.Equal(a.Next, b.Next) && slices.Equal(a.Match, b.Match)
}

func sameMsgs(a []api.Msg, b []api.Msg) bool {
	return slices.EqualFunc(a, b, func(x, y api.Msg) bool {
		return x.From == y.From && x.To == y.To && x.Kind == y.Kind && slices.Equal(x.Nums, y.Nums) && string(x.Data) == string(y.Data)
	})
}

func msg(from int, to int, kind int, data string, nums ...int) api.Msg {
	return api.Msg{From: from, To: to, Kind: kind, Nums: nums, Data: []byte(data)}
}

func e(term int, data string) api.Entry { return api.Entry{Term: term, Data: []byte(data)} }

// fresh is seat 2 of 1, 2 and 3.
func fresh() api.Seat { return New(2, []int{1, 3}) }

// stands is seat 2 of 1 to 5, with two entries, that stands in term 4.
func stands() api.Seat {
	return api.Seat{Id: 2, Peers: []int{1, 2, 3, 4, 5}, Term: 4, Voted: 2, Role: api.Stand, Log: []api.Entry{e(1, "a"), e(3, "bc")}, Commit: 1, Votes: []int{2}}
}

// leads is that one when it won, and was offered an entry.
func leads() api.Seat {
	s := stands()
	s.Role, s.Votes, s.Next, s.Match = api.Lead, nil, []int{3, 4, 3, 3, 3}, []int{0, 3, 0, 0, 0}
	s.Log = append(s.Log, e(4, "d"))
	return s
}

// P15.1: which seats are right.
func TestP151Right(t *testing.T) {
	long := make([]byte, 201)
	for i, x := range []struct {
		of    api.Seat
		with  func(s *api.Seat)
		right bool
	}{
		{fresh(), func(s *api.Seat) {}, true}, {stands(), func(s *api.Seat) {}, true}, {leads(), func(s *api.Seat) {}, true}, {api.Seat{}, func(s *api.Seat) {}, false},
		{fresh(), func(s *api.Seat) { s.Peers = nil }, false}, {fresh(), func(s *api.Seat) { s.Peers = []int{1, 3} }, false}, {fresh(), func(s *api.Seat) { s.Peers = []int{2, 1} }, false}, {fresh(), func(s *api.Seat) { s.Peers = []int{2, 2} }, false}, {fresh(), func(s *api.Seat) { s.Peers = []int{-1, 2} }, false}, {fresh(), func(s *api.Seat) { s.Peers = []int{2, 999} }, true}, {fresh(), func(s *api.Seat) { s.Peers = []int{2, 1000} }, false},
		{fresh(), func(s *api.Seat) { s.Peers = []int{0, 1, 2, 3, 4, 5, 6} }, true}, {fresh(), func(s *api.Seat) { s.Peers = []int{0, 1, 2, 3, 4, 5, 6, 7} }, false}, {fresh(), func(s *api.Seat) { s.Term = -1 }, false}, {fresh(), func(s *api.Seat) { s.Term = 1 << 40 }, true}, {fresh(), func(s *api.Seat) { s.Term = 1<<40 + 1 }, false},
		{fresh(), func(s *api.Seat) { s.Voted = 3 }, true}, {fresh(), func(s *api.Seat) { s.Voted = 4 }, false}, {fresh(), func(s *api.Seat) { s.Voted = -2 }, false}, {fresh(), func(s *api.Seat) { s.Role = 0 }, false}, {fresh(), func(s *api.Seat) { s.Role = 4 }, false}, {fresh(), func(s *api.Seat) { s.Votes = []int{2} }, false}, {fresh(), func(s *api.Seat) { s.Next = []int{1, 1, 1} }, false}, {fresh(), func(s *api.Seat) { s.Match = []int{0, 0, 0} }, false},
		{stands(), func(s *api.Seat) { s.Log[0].Term = 0 }, false}, {stands(), func(s *api.Seat) { s.Log[1].Term = 5 }, false}, {stands(), func(s *api.Seat) { s.Log[0].Term = 4 }, false}, {stands(), func(s *api.Seat) { s.Log[0].Data = long }, false}, {stands(), func(s *api.Seat) { s.Log[0].Data = long[:200] }, true}, {stands(), func(s *api.Seat) { s.Log = slices.Repeat([]api.Entry{e(1, "")}, 500) }, true}, {stands(), func(s *api.Seat) { s.Log = slices.Repeat([]api.Entry{e(1, "")}, 501) }, false},
		{stands(), func(s *api.Seat) { s.Commit = 3 }, false}, {stands(), func(s *api.Seat) { s.Commit = -1 }, false}, {stands(), func(s *api.Seat) { s.Votes = []int{1, 2} }, true}, {stands(), func(s *api.Seat) { s.Votes = []int{2, 1} }, false}, {stands(), func(s *api.Seat) { s.Votes = []int{2, 9} }, false}, {stands(), func(s *api.Seat) { s.Votes = []int{1} }, false}, {stands(), func(s *api.Seat) { s.Votes = nil }, false},
		{stands(), func(s *api.Seat) { s.Term, s.Log, s.Commit = 0, nil, 0 }, false}, {stands(), func(s *api.Seat) { s.Voted = 1 }, false}, {stands(), func(s *api.Seat) { s.Voted = -1 }, false}, {stands(), func(s *api.Seat) { s.Next = []int{1} }, false}, {stands(), func(s *api.Seat) { s.Match = []int{1} }, false},
		{leads(), func(s *api.Seat) { s.Voted = 1 }, false}, {leads(), func(s *api.Seat) { s.Votes = []int{2} }, false}, {leads(), func(s *api.Seat) { s.Next = s.Next[1:] }, false}, {leads(), func(s *api.Seat) { s.Match = s.Match[:4] }, false}, {leads(), func(s *api.Seat) { s.Next = append(s.Next, 4) }, false}, {leads(), func(s *api.Seat) { s.Match = append(s.Match, 0) }, false}, {leads(), func(s *api.Seat) { s.Match[0] = -1 }, false}, {leads(), func(s *api.Seat) { s.Match[0], s.Next[0] = 3, 4 }, true}, {leads(), func(s *api.Seat) { s.Match[0], s.Next[0] = 4, 5 }, false},
		{leads(), func(s *api.Seat) { s.Match[0], s.Next[0] = 2, 2 }, false}, {leads(), func(s *api.Seat) { s.Next[0] = 5 }, false}, {leads(), func(s *api.Seat) { s.Match[1] = 2 }, false}, {leads(), func(s *api.Seat) {
			s.Term, s.Log, s.Commit, s.Next, s.Match = 0, nil, 0, []int{1, 1, 1, 1, 1}, make([]int, 5)
		}, false},
	} {
		s := x.of
		x.with(&s)
		if Right(s) != x.right {
			t.Errorf("%d: %v", i, !x.right)
		}
	}
}

// P15.1: new ones, and ones that begin again.
func TestP151New(t *testing.T) {
	want := api.Seat{Id: 2, Peers: []int{0, 2, 5}, Voted: -1, Role: api.Follow}
	for _, peers := range [][]int{{5, 0}, {0, 2, 5}, {5, 5, 2, 0, 0, 2}} {
		if s := New(2, peers); !same(s, want) {
			t.Error(s)
		}
	}
	for i, s := range []api.Seat{New(-1, nil), New(1000, nil), New(1, []int{1000}), New(1, []int{-1}), New(9, []int{0, 1, 2, 3, 4, 5, 6}), New(math.MinInt, []int{1})} {
		if !reflect.DeepEqual(s, api.Seat{}) {
			t.Error(i, s)
		}
	}
	if s := New(0, []int{1, 2, 3, 4, 5, 6}); len(s.Peers) != 7 {
		t.Error(s)
	}
	back := api.Seat{Id: 2, Peers: leads().Peers, Term: 4, Voted: 2, Role: api.Follow, Log: leads().Log}
	if s := Back(leads()); !same(s, back) {
		t.Error(s)
	}
}

// P15.1: who is late, tells, and is offered.
func TestP151Late(t *testing.T) {
	s, out := Late(fresh())
	want := api.Seat{Id: 2, Peers: []int{1, 2, 3}, Term: 1, Voted: 2, Role: api.Stand, Votes: []int{2}}
	if !same(s, want) || !sameMsgs(out, []api.Msg{msg(2, 1, 1, "", 1, 0, 0), msg(2, 3, 1, "", 1, 0, 0)}) {
		t.Error(s, out)
	}
	if s, out = Late(stands()); s.Term != 5 || !sameMsgs(out[:1], []api.Msg{msg(2, 1, 1, "", 5, 3, 2)}) || len(out) != 4 {
		t.Error(s, out)
	}
	if s, out = Late(leads()); !same(s, leads()) || len(out) != 0 {
		t.Error(s, out)
	}
	old := fresh()
	old.Term = 1 << 40
	if s, out = Late(old); !same(s, old) || len(out) != 0 {
		t.Error(s, out)
	}
	one := New(7, nil)
	if s, out = Late(one); s.Role != api.Lead || s.Term != 1 || !slices.Equal(s.Next, []int{1}) || !slices.Equal(s.Match, []int{0}) || len(out) != 0 {
		t.Error(s, out)
	}
	s, at, ok := Offer(s, []byte("x"))
	if at != 1 || !ok || s.Commit != 1 || !slices.Equal(s.Next, []int{2}) || !slices.Equal(s.Match, []int{1}) || !log.Same(s.Log, []api.Entry{e(1, "x")}) {
		t.Error(s, at, ok)
	}
	for i, s := range []api.Seat{fresh(), stands()} {
		if got, out := Beat(s); !same(got, s) || len(out) != 0 {
			t.Error(i)
		}
		if got, at, ok := Offer(s, nil); !same(got, s) || at != 0 || ok {
			t.Error(i)
		}
	}
	l := leads()
	l.Next = []int{1, 4, 2, 3, 4}
	got, out := Beat(l)
	if !same(got, l) || !sameMsgs(out, []api.Msg{msg(2, 1, 3, "abcd", 4, 0, 0, 1, 1, 1, 3, 2, 4, 1), msg(2, 3, 3, "bcd", 4, 1, 1, 1, 3, 2, 4, 1), msg(2, 4, 3, "d", 4, 2, 3, 1, 4, 1), msg(2, 5, 3, "", 4, 3, 4, 1)}) {
		t.Error(out)
	}
}

// P15.1: limits of what is offered and sent.
func TestP151Limits(t *testing.T) {
	s, _ := Late(New(7, nil))
	if _, at, ok := Offer(s, make([]byte, 201)); at != 0 || ok {
		t.Error(at, ok)
	}
	for i := range 500 {
		var ok bool
		if s, _, ok = Offer(s, make([]byte, 200)); !ok || s.Commit != i+1 {
			t.Fatal(i)
		}
	}
	if got, at, ok := Offer(s, nil); at != 0 || ok || !same(got, s) {
		t.Error(at, ok)
	}
	l := leads()
	l.Log = slices.Repeat([]api.Entry{e(1, "x")}, 20)
	l.Next, l.Match = []int{3, 21, 13, 14, 20}, []int{0, 20, 0, 0, 0}
	_, out := Beat(l)
	for i, many := range []int{8, 8, 7, 1} {
		if len(out[i].Nums) != 4+2*many || len(out[i].Data) != many {
			t.Error(i, out[i])
		}
	}
}

// P15.1: what a seat hears: the examples, and each kind's rows.
func TestP151Hear(t *testing.T) {
	s, out := Hear(fresh(), msg(1, 2, 1, "", 1, 0, 0))
	if s.Term != 1 || s.Voted != 1 || !sameMsgs(out, []api.Msg{msg(2, 1, 2, "", 1, 1)}) {
		t.Error(s, out)
	}
	if u, out := Hear(s, msg(3, 2, 1, "", 1, 0, 0)); !same(u, s) || !sameMsgs(out, []api.Msg{msg(2, 3, 2, "", 1, 0)}) {
		t.Error(u, out)
	}
	u, out := Hear(s, msg(1, 2, 3, "xy", 1, 0, 0, 0, 1, 2))
	if !log.Same(u.Log, []api.Entry{e(1, "xy")}) || u.Commit != 0 || !sameMsgs(out, []api.Msg{msg(2, 1, 4, "", 1, 1, 1)}) {
		t.Error(u, out)
	}
	if u, out := Hear(fresh(), msg(1, 2, 3, "", 1, 3, 1, 0)); u.Term != 1 || len(u.Log) != 0 || !sameMsgs(out, []api.Msg{msg(2, 1, 4, "", 1, 0, 0)}) {
		t.Error(u, out)
	}
	for i, x := range []struct {
		s    api.Seat
		m    api.Msg
		with func(s *api.Seat) // what s becomes
		out  []api.Msg
	}{
		{stands(), msg(1, 2, 1, "", 3, 9, 9), func(s *api.Seat) {}, []api.Msg{msg(2, 1, 2, "", 4, 0)}}, {stands(), msg(1, 2, 1, "", 5, 3, 1), func(s *api.Seat) { s.Term, s.Voted, s.Role, s.Votes = 5, -1, api.Follow, nil }, []api.Msg{msg(2, 1, 2, "", 5, 0)}},
		{stands(), msg(1, 2, 1, "", 5, 4, 0), func(s *api.Seat) { s.Term, s.Voted, s.Role, s.Votes = 5, 1, api.Follow, nil }, []api.Msg{msg(2, 1, 2, "", 5, 1)}}, {stands(), msg(1, 2, 1, "", 5, 1, 9), func(s *api.Seat) { s.Term, s.Voted, s.Role, s.Votes = 5, -1, api.Follow, nil }, []api.Msg{msg(2, 1, 2, "", 5, 0)}},
		{stands(), msg(3, 2, 2, "", 4, 1), func(s *api.Seat) { s.Votes = []int{2, 3} }, nil}, {stands(), msg(1, 2, 2, "", 4, 1), func(s *api.Seat) { s.Votes = []int{1, 2} }, nil}, {stands(), msg(3, 2, 2, "", 4, 0), func(s *api.Seat) {}, nil}, {stands(), msg(3, 2, 2, "", 3, 1), func(s *api.Seat) {}, nil}, {stands(), msg(3, 2, 2, "", 5, 1), func(s *api.Seat) { s.Term, s.Voted, s.Role, s.Votes = 5, -1, api.Follow, nil }, nil}, {fresh(), msg(3, 2, 2, "", 0, 1), func(s *api.Seat) {}, nil}, {leads(), msg(3, 2, 2, "", 4, 1), func(s *api.Seat) {}, nil},
		{stands(), msg(1, 2, 3, "", 3, 0, 0, 2), func(s *api.Seat) {}, []api.Msg{msg(2, 1, 4, "", 4, 0, 0)}}, {leads(), msg(1, 2, 3, "", 4, 0, 0, 2), func(s *api.Seat) {}, nil}, {stands(), msg(1, 2, 3, "", 4, 2, 3, 2), func(s *api.Seat) { s.Role, s.Votes, s.Commit = api.Follow, nil, 2 }, []api.Msg{msg(2, 1, 4, "", 4, 1, 2)}}, {stands(), msg(1, 2, 3, "", 4, 2, 3, 0), func(s *api.Seat) { s.Role, s.Votes = api.Follow, nil }, []api.Msg{msg(2, 1, 4, "", 4, 1, 2)}},
		{stands(), msg(1, 2, 3, "z", 4, 1, 1, 9, 4, 1), func(s *api.Seat) {
			s.Role, s.Votes, s.Commit, s.Log = api.Follow, nil, 2, []api.Entry{e(1, "a"), e(4, "z")}
		}, []api.Msg{msg(2, 1, 4, "", 4, 1, 2)}}, {stands(), msg(1, 2, 3, "z", 4, 0, 0, 9, 4, 1), func(s *api.Seat) { s.Role, s.Votes = api.Follow, nil }, []api.Msg{msg(2, 1, 4, "", 4, 0, 0)}},
		{stands(), msg(1, 2, 3, "", 4, 9, 4, 9), func(s *api.Seat) { s.Role, s.Votes = api.Follow, nil }, []api.Msg{msg(2, 1, 4, "", 4, 0, 2)}}, {stands(), msg(1, 2, 3, "", 4, 2, 2, 9), func(s *api.Seat) { s.Role, s.Votes = api.Follow, nil }, []api.Msg{msg(2, 1, 4, "", 4, 0, 1)}}, {stands(), msg(1, 2, 3, "", 4, 0, 1, 9), func(s *api.Seat) { s.Role, s.Votes = api.Follow, nil }, []api.Msg{msg(2, 1, 4, "", 4, 0, 0)}}, {stands(), msg(1, 2, 3, "", 4, math.MaxInt, 1, 9), func(s *api.Seat) { s.Role, s.Votes = api.Follow, nil }, []api.Msg{msg(2, 1, 4, "", 4, 0, 2)}},
		{leads(), msg(1, 2, 3, "", 5, 3, 4, 0), func(s *api.Seat) { s.Term, s.Voted, s.Role, s.Next, s.Match = 5, -1, api.Follow, nil, nil }, []api.Msg{msg(2, 1, 4, "", 5, 1, 3)}}, {stands(), msg(1, 2, 3, "", 4, 1, 1, 9), func(s *api.Seat) { s.Role, s.Votes = api.Follow, nil }, []api.Msg{msg(2, 1, 4, "", 4, 1, 1)}},
		{leads(), msg(3, 2, 4, "", 4, 1, 3), func(s *api.Seat) { s.Match[2], s.Next[2] = 3, 4 }, nil}, {leads(), msg(3, 2, 4, "", 4, 1, 2), func(s *api.Seat) { s.Match[2] = 2 }, []api.Msg{msg(2, 3, 3, "d", 4, 2, 3, 1, 4, 1)}}, {leads(), msg(3, 2, 4, "", 4, 1, 4), func(s *api.Seat) {}, nil}, {leads(), msg(3, 2, 4, "", 4, 0, 4), func(s *api.Seat) {}, nil}, {leads(), msg(3, 2, 4, "", 3, 1, 3), func(s *api.Seat) {}, nil},
		{leads(), msg(3, 2, 4, "", 4, 0, 1), func(s *api.Seat) { s.Next[2] = 2 }, []api.Msg{msg(2, 3, 3, "bcd", 4, 1, 1, 1, 3, 2, 4, 1)}}, {leads(), msg(3, 2, 4, "", 4, 0, 3), func(s *api.Seat) {}, []api.Msg{msg(2, 3, 3, "d", 4, 2, 3, 1, 4, 1)}}, {stands(), msg(3, 2, 4, "", 4, 1, 1), func(s *api.Seat) {}, nil}, {leads(), msg(3, 2, 4, "", 5, 1, 3), func(s *api.Seat) { s.Term, s.Voted, s.Role, s.Next, s.Match = 5, -1, api.Follow, nil, nil }, nil},
	} {
		want := x.s
		want.Next, want.Match = slices.Clone(x.s.Next), slices.Clone(x.s.Match)
		x.with(&want)
		x.s.Votes = append(make([]int, 0, 9), x.s.Votes...)
		was := fmt.Sprint(x.s, x.s.Votes[:cap(x.s.Votes)])
		if got, out := Hear(x.s, x.m); !same(got, want) || !sameMsgs(out, x.out) {
			t.Errorf("%d: %v, %v", i, got, out)
		}
		if fmt.Sprint(x.s, x.s.Votes[:cap(x.s.Votes)]) != was {
			t.Errorf("%d: a seat that was handed in is changed", i)
		}
	}
}

// P15.1: a leader commits when more than half have an entry of its term, and tells so.
func TestP151Lead(t *testing.T) {
	s := leads()
	s, _ = Hear(s, msg(1, 2, 4, "", 4, 1, 3))
	if s.Commit != 1 {
		t.Error(s.Commit)
	}
	if s, _ = Hear(s, msg(4, 2, 4, "", 4, 1, 3)); s.Commit != 3 {
		t.Error(s.Commit)
	}
	if u, out := Hear(s, msg(1, 2, 4, "", 4, 0, 0)); u.Next[0] != 4 || !sameMsgs(out, []api.Msg{msg(2, 1, 3, "", 4, 3, 4, 3)}) {
		t.Error("below what it has", u.Next, out)
	}
	s = stands()
	s.Votes = []int{2, 5}
	s, out := Hear(s, msg(1, 2, 2, "", 4, 1))
	want := stands()
	want.Role, want.Votes, want.Next, want.Match = api.Lead, nil, []int{3, 3, 3, 3, 3}, []int{0, 2, 0, 0, 0}
	if !same(s, want) || len(out) != 4 || !sameMsgs(out[:1], []api.Msg{msg(2, 1, 3, "", 4, 2, 3, 1)}) {
		t.Error(s, out)
	}
}

// P15.1: what is not for a seat changes nothing, and is not answered.
func TestP151NotFor(t *testing.T) {
	big := make([]byte, 201)
	many := append([]int{4, 2, 3, 0}, slices.Repeat([]int{4, 0}, 9)...)
	for i, m := range []api.Msg{
		msg(1, 3, 1, "", 9, 0, 0), msg(2, 2, 1, "", 9, 0, 0), msg(9, 2, 1, "", 9, 0, 0), msg(1, 2, 0, "", 9, 0, 0), msg(1, 2, 5, "", 9, 0, 0), msg(1, 2, 1, ""), msg(1, 2, 1, "", 9, 0), msg(1, 2, 1, "", 9, 0, 0, 0), msg(1, 2, 1, "x", 9, 0, 0), msg(1, 2, 1, "", -1, 0, 0), msg(1, 2, 1, "", 1<<40+1, 0, 0), msg(1, 2, 1, "", 9, -1, 0), msg(1, 2, 1, "", 9, 0, -1),
		msg(1, 2, 2, "", 9), msg(1, 2, 2, "", 9, 2), msg(1, 2, 2, "", 9, -1), msg(1, 2, 2, "", 9, 1, 1), msg(1, 2, 2, "x", 9, 1), msg(1, 2, 4, "", 9, 1), msg(1, 2, 4, "", 9, 2, 0), msg(1, 2, 4, "", 9, 1, -1), msg(1, 2, 4, "x", 9, 1, 1), msg(1, 2, 4, "", 9, 1, 1, 1),
		msg(1, 2, 3, "", 9), msg(1, 2, 3, "", 9, 0), msg(1, 2, 3, "", 9, 0, 0), msg(1, 2, 3, "", 9, 0, 0, 0, 1), msg(1, 2, 3, "", 9, -1, 0, 0), msg(1, 2, 3, "", 9, 0, -1, 0), msg(1, 2, 3, "", 9, 0, 0, -1), msg(1, 2, 3, "x", 9, 0, 0, 0), msg(1, 2, 3, "x", 9, 0, 0, 0, 0, 1), msg(1, 2, 3, "x", 9, 0, 0, 0, 10, 1), msg(1, 2, 3, "xy", 9, 0, 0, 0, 3, 1, 2, 1), msg(1, 2, 3, "x", 9, 1, 3, 0, 2, 1), msg(1, 2, 3, "x", 9, 0, 0, 0, 1, 2), msg(1, 2, 3, "xy", 9, 0, 0, 0, 1, 1), msg(1, 2, 3, "x", 9, 0, 0, 0, 1, -1, 1, 2), msg(1, 2, 3, string(big), 9, 0, 0, 0, 1, 201), msg(1, 2, 3, "", many...),
	} {
		for _, s := range []api.Seat{stands(), leads(), Back(stands())} {
			if got, out := Hear(s, m); !same(got, s) || len(out) != 0 {
				t.Errorf("%d: %v, %v", i, got, out)
			}
		}
	}
	if s, out := Hear(stands(), msg(1, 2, 3, string(big[:200]), 4, 2, 3, 0, 4, 200)); len(s.Log) != 3 || len(out) != 1 {
		t.Error("200 bytes")
	}
	if s, out := Hear(stands(), msg(1, 2, 3, "", many[:20]...)); len(s.Log) != 10 || len(out) != 1 {
		t.Error("8 entries")
	}
}

// group is seats and messages under way; wrong tells what a step broke.
type group struct {
	seats []api.Seat
	wire  []api.Msg
	voted map[string]int // by term and voter for whom
}

func newGroup(n int) *group {
	g := &group{voted: map[string]int{}}
	peers := []int{0, 1, 2, 3, 4, 5, 6}[:n]
	for i := range n {
		g.seats = append(g.seats, New(i, peers))
	}
	return g
}

func (g *group) step(r *rand.Rand) string {
	i := r.Intn(len(g.seats))
	was := g.seats[i]
	s, out := was, []api.Msg(nil)
	back := false
	switch k := r.Intn(20); {
	case k == 0:
		s, out = Late(s)
	case k < 3:
		s, out = Beat(s)
	case k < 5:
		s, _, _ = Offer(s, []byte{byte(r.Intn(256))})
	case k == 5 && r.Intn(4) == 0:
		s, back = Back(s), true
	default:
		if len(g.wire) == 0 {
			return ""
		}
		at := r.Intn(len(g.wire))
		m := g.wire[at]
		if r.Intn(4) > 0 {
			g.wire = slices.Delete(slices.Clone(g.wire), at, at+1)
		}
		i = m.To
		was = g.seats[i]
		s, out = Hear(was, m)
		if twice, _ := Hear(s, m); !same(twice, s) {
			return fmt.Sprint("heard twice: ", m, was, s, twice)
		}
	}
	g.seats[i] = s
	g.wire = append(g.wire, out...)
	if len(g.wire) > 60 {
		g.wire = g.wire[20:]
	}
	return g.wrong(was, s, out, back)
}

func (g *group) wrong(was api.Seat, s api.Seat, out []api.Msg, back bool) string {
	if !Right(s) {
		return fmt.Sprint("not right: ", s)
	}
	for _, m := range out {
		if m.To >= len(g.seats) || m.From != s.Id || m.To == s.Id || !isFor(g.seats[m.To], m) {
			return fmt.Sprint("not for the peer: ", m)
		}
		if m.Kind == api.MsgVote && m.Nums[1] == 1 {
			key := fmt.Sprint(m.Nums[0], " ", s.Id)
			if to, had := g.voted[key]; had && to != m.To {
				return "two votes in one term"
			}
			g.voted[key] = m.To
		}
	}
	if s.Term < was.Term || s.Term == was.Term && was.Voted != -1 && s.Voted != was.Voted || s.Commit < was.Commit && !back {
		return fmt.Sprint("the other way: ", was, s)
	}
	if was.Role == api.Lead && s.Role == api.Lead && s.Term == was.Term && (len(s.Log) < len(was.Log) || !log.Same(s.Log[:len(was.Log)], was.Log)) {
		return "a leader's log lost something"
	}
	if s.Role == api.Lead && was.Role != api.Lead {
		n := 1
		for _, p := range s.Peers {
			if to, had := g.voted[fmt.Sprint(s.Term, " ", p)]; had && to == s.Id {
				n++
			}
		}
		if 2*n <= len(s.Peers) {
			return "leads without votes"
		}
	}
	return ""
}

func walk(t *testing.T, seed int64, of string) {
	r := rand.New(rand.NewSource(seed))
	led, committed := 0, 0
	for range 60 {
		g := newGroup(1 + r.Intn(5))
		for range 600 {
			if wrong := g.step(r); wrong != "" {
				t.Fatal(of, wrong)
			}
		}
		for _, s := range g.seats {
			committed += s.Commit
			if s.Role == api.Lead {
				led++
			}
		}
	}
	if led == 0 || committed < 100 {
		t.Error("nothing happened", led, committed)
	}
}

// P15.2: seats stay right, and what they send is for the peer that it is sent to.
func TestP152Right(t *testing.T) { walk(t, 1, "P15.2") }

// P15.3: terms, votes and commits go one way.
func TestP153OneWay(t *testing.T) { walk(t, 2, "P15.3") }

// P15.4: a message that is heard twice leaves the seat as one that is heard once.
func TestP154Twice(t *testing.T) { walk(t, 3, "P15.4") }

// P15.5: a seat that hears a leader again and again has all of its entries at last.
func TestP155Taught(t *testing.T) {
	r := rand.New(rand.NewSource(5))
	for range 200 {
		leader := New(0, []int{1})
		leader.Term, leader.Voted, leader.Role = 9, 0, api.Lead
		term := 1
		for range r.Intn(40) {
			term = min(term+r.Intn(2), 9)
			leader.Log = append(leader.Log, e(term, fmt.Sprint(len(leader.Log))))
		}
		n := len(leader.Log)
		leader.Next, leader.Match = []int{n + 1, 1 + r.Intn(n+1)}, []int{n, 0}
		s := New(1, []int{0})
		s.Term = r.Intn(10)
		s.Log = slices.Clone(leader.Log[:r.Intn(n+1)])
		for i, x := range s.Log {
			if x.Term > s.Term {
				s.Log = s.Log[:i]
				break
			}
		}
		s.Commit = r.Intn(len(s.Log) + 1)
		for range r.Intn(5) * min(s.Term, 1) {
			s.Log = append(s.Log, e(s.Term, "other"))
		}
		if !Right(leader) || !Right(s) {
			t.Fatal("not right", leader, s)
		}
		if n > 0 && s.Term >= 1 && len(s.Log) > 0 && !meets(s.Log, leader.Log) {
			continue
		}
		_, wire := Beat(leader)
		for rounds := 0; len(wire) > 0; rounds++ {
			if rounds > 200 {
				t.Fatal("never ends")
			}
			m := wire[0]
			var out []api.Msg
			if m.To == 0 {
				leader, out = Hear(leader, m)
			} else {
				s, out = Hear(s, m)
			}
			wire = append(wire[1:], out...)
		}
		if len(s.Log) < n || !log.Same(s.Log[:n], leader.Log) || leader.Match[1] != n {
			t.Fatal(leader, s)
		}
	}
}

// meets: where both have an entry, and of one term, is all up to there alike?
func meets(a []api.Entry, b []api.Entry) bool {
	for p := min(len(a), len(b)); p > 0; p-- {
		if a[p-1].Term == b[p-1].Term && !log.Same(a[:p], b[:p]) {
			return false
		}
	}
	return true
}
