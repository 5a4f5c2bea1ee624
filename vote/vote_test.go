package vote

import (
	"math/rand"
	"reflect"
	"slices"
	"testing"

	"catacomb/api"
	"catacomb/log"
)

func terms(l ...int) []api.Entry {
	var out []api.Entry
	for _, t := range l {
		out = append(out, api.Entry{Term: t})
	}
	return out
}

// lead is a seat with something in each field.
func lead() api.Seat {
	return api.Seat{Id: 2, Peers: []int{1, 2, 3}, Term: 5, Voted: 2, Role: api.Lead, Log: terms(1, 5), Commit: 1, Votes: []int{1, 2}, Next: []int{3, 3, 3}, Match: []int{0, 2, 0}}
}

// P14.1: stepping down, and standing.
func TestP141Roles(t *testing.T) {
	want := lead()
	want.Term, want.Voted, want.Role, want.Votes, want.Next, want.Match = 8, -1, api.Follow, nil, nil, nil
	if got := Down(lead(), 8); !reflect.DeepEqual(got, want) {
		t.Error(got)
	}
	want.Term, want.Voted, want.Role, want.Votes = 6, 2, api.Stand, []int{2}
	if got := Begin(lead()); !reflect.DeepEqual(got, want) {
		t.Error(got)
	}
}

// P14.1: who is given a vote.
func TestP141Ask(t *testing.T) {
	follow := Down(lead(), 5)
	voted := follow
	voted.Voted = 3
	down := Down(lead(), 6)
	gave := func(s api.Seat, who int) api.Seat { s.Voted = who; return s }
	for i, x := range []struct {
		s                     api.Seat
		term, who, last, many int
		want                  api.Seat
		ok                    bool
	}{
		{follow, 4, 1, 9, 9, follow, false}, {follow, 5, 1, 5, 2, gave(follow, 1), true}, {follow, 5, 1, 5, 1, follow, false}, {follow, 5, 1, 4, 9, follow, false}, {follow, 5, 1, 6, 0, gave(follow, 1), true},
		{voted, 5, 1, 9, 9, voted, false}, {voted, 5, 3, 5, 2, voted, true}, {voted, 5, 3, 5, 1, voted, false}, {voted, 6, 1, 5, 2, gave(down, 1), true}, {voted, 6, 1, 5, 1, down, false},
		{lead(), 5, 1, 9, 9, lead(), false}, {lead(), 5, 2, 9, 9, lead(), true}, {lead(), 6, 1, 9, 9, gave(down, 1), true}, {lead(), 6, 1, 0, 0, down, false}, {lead(), 0, 1, 9, 9, lead(), false},
		{api.Seat{Voted: -1}, 0, 0, 0, 0, api.Seat{Voted: 0}, true},
	} {
		got, ok := Ask(x.s, x.term, x.who, x.last, x.many)
		if ok != x.ok || !reflect.DeepEqual(got, x.want) {
			t.Errorf("%d: %v, %v", i, got, ok)
		}
	}
}

// P14.1: what wins.
func TestP141Won(t *testing.T) {
	for i, x := range []struct {
		votes, peers []int
		won          bool
	}{
		{[]int{3, 1}, []int{1, 2, 3}, true}, {[]int{1, 2}, []int{1, 2, 3, 4}, false}, {[]int{1, 2, 4}, []int{1, 2, 3, 4}, true}, {nil, []int{1}, false}, {[]int{1}, []int{1}, true}, {[]int{1, 1, 1}, []int{1, 2, 3}, false}, {[]int{7, 8, 9, 1}, []int{1, 2, 3}, false}, {nil, nil, false}, {[]int{9, 3, 2}, []int{1, 2, 3}, true},
	} {
		if Won(x.votes, x.peers) != x.won {
			t.Errorf("%d: %v", i, !x.won)
		}
	}
}

// P14.2: terms never fall; in one term a vote goes to one alone.
func TestP142OneVote(t *testing.T) {
	r := rand.New(rand.NewSource(1))
	for range 500 {
		s := api.Seat{Id: 1, Peers: []int{1, 2, 3}, Voted: -1, Log: terms(1)}
		given := map[int]int{}
		for range 40 {
			was := s
			term, who := r.Intn(8), 1+r.Intn(3)
			ok := true
			if r.Intn(6) == 0 {
				s = Begin(s)
				term, who = s.Term, s.Id
			} else {
				s, ok = Ask(s, term, who, r.Intn(3), r.Intn(3))
			}
			if s.Term < was.Term || ok && s.Term != term {
				t.Fatal(was, s)
			}
			if s.Term == was.Term && was.Voted != -1 && s.Voted != was.Voted {
				t.Fatal("another vote", was, s)
			}
			if ok {
				if to, had := given[term]; had && to != who {
					t.Fatal("two votes in", term)
				}
				given[term] = who
			}
		}
	}
}

// subset is the row of those of which the bits of b are 1.
func subset(b int, of []int) []int {
	var l []int
	for i, p := range of {
		if b>>i&1 == 1 {
			l = append(l, p)
		}
	}
	return l
}

// P14.3: two rows that win have one in common; what wants a vote more wants more than half.
func TestP143Meet(t *testing.T) {
	for n := 1; n <= 7; n++ {
		peers := []int{2, 3, 5, 8, 9, 11, 20}[:n]
		for a := range 1 << n {
			won := Won(subset(a, peers), peers)
			if won != (2*len(subset(a, peers)) > n) {
				t.Fatal(a, peers)
			}
			for b := range 1 << n {
				if won && Won(subset(b, peers), peers) && a&b == 0 {
					t.Fatal(a, b, peers)
				}
			}
			if rest := subset(1<<n-1-a, peers); !won && n%2 == 1 && !Won(rest, peers) {
				t.Fatal("neither wins", a, peers)
			}
		}
	}
}

// elect has some seats stand in one term, and all be asked in any order; votes by whom they are for.
func elect(r *rand.Rand, seats []api.Seat) map[int][]int {
	votes := map[int][]int{}
	term := 10
	var stand []api.Seat
	for i := range seats {
		if r.Intn(2) == 0 {
			seats[i].Term = term - 1
			seats[i] = Begin(seats[i])
			stand = append(stand, seats[i])
			votes[seats[i].Id] = []int{seats[i].Id}
		}
	}
	for range 60 {
		if len(stand) == 0 {
			break
		}
		c, i := stand[r.Intn(len(stand))], r.Intn(len(seats))
		last := 0
		if n := len(c.Log); n > 0 {
			last = c.Log[n-1].Term
		}
		var ok bool
		if seats[i], ok = Ask(seats[i], term, c.Id, last, len(c.Log)); ok && !slices.Contains(votes[c.Id], seats[i].Id) {
			votes[c.Id] = append(votes[c.Id], seats[i].Id)
		}
	}
	return votes
}

func council(r *rand.Rand) []api.Seat {
	n := 1 + r.Intn(7)
	var peers []int
	for i := range n {
		peers = append(peers, i)
	}
	var seats []api.Seat
	for i := range n {
		seats = append(seats, api.Seat{Id: i, Peers: peers, Voted: -1, Log: terms(slices.Repeat([]int{1 + r.Intn(2)}, r.Intn(3))...)})
	}
	return seats
}

// P14.4: at most one wins a term. P14.5: whose log is as new as that of more than half.
func TestP144OneWinner(t *testing.T) {
	r := rand.New(rand.NewSource(2))
	for range 3000 {
		seats := council(r)
		var won []int
		for who, votes := range elect(r, seats) {
			if Won(votes, seats[0].Peers) {
				won = append(won, who)
			}
		}
		if len(won) > 1 {
			t.Fatal(won)
		}
	}
}

func TestP145Newer(t *testing.T) {
	r := rand.New(rand.NewSource(3))
	winners := 0
	for range 3000 {
		seats := council(r)
		for who, votes := range elect(r, seats) {
			if !Won(votes, seats[0].Peers) {
				continue
			}
			winners++
			l, n := seats[who].Log, 0
			last := 0
			if len(l) > 0 {
				last = l[len(l)-1].Term
			}
			for _, s := range seats {
				if log.Newer(s.Log, last, len(l)) {
					n++
				}
			}
			if 2*n <= len(seats) {
				t.Fatal(who, seats)
			}
		}
	}
	if winners == 0 {
		t.Error("nobody wins")
	}
}
