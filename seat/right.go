package seat

import (
	"slices"

	"catacomb/api"
)

// numbersAhead is how many numbers a message of entries has ahead of theirs.
const numbersAhead = 4

// rise: does each number stand above the one ahead?
func rise(l []int) bool {
	for i := 1; i < len(l); i++ {
		if l[i-1] >= l[i] {
			return false
		}
	}
	return true
}

func isTerm(n int) bool { return n >= 0 && n <= api.MaxTime }

// Right: may a seat be so?
func Right(s api.Seat) bool {
	if !rightPeers(s) || !isTerm(s.Term) || s.Voted != nobody && !slices.Contains(s.Peers, s.Voted) {
		return false
	}
	if !rightLog(s) || s.Commit < 0 || s.Commit > len(s.Log) {
		return false
	}
	if !rise(s.Votes) || slices.ContainsFunc(s.Votes, func(v int) bool { return !slices.Contains(s.Peers, v) }) {
		return false
	}
	stood := s.Term >= 1 && s.Voted == s.Id
	switch s.Role {
	case api.Follow:
		return len(s.Votes) == 0 && len(s.Next) == 0 && len(s.Match) == 0
	case api.Stand:
		return stood && slices.Contains(s.Votes, s.Id) && len(s.Next) == 0 && len(s.Match) == 0
	case api.Lead:
		return stood && len(s.Votes) == 0 && rightReach(s)
	}
	return false
}

func rightPeers(s api.Seat) bool {
	return len(s.Peers) >= 1 && len(s.Peers) <= api.MaxSeats && rise(s.Peers) && s.Peers[0] >= 0 && s.Peers[len(s.Peers)-1] <= api.MaxId && slices.Contains(s.Peers, s.Id)
}

func rightLog(s api.Seat) bool {
	if len(s.Log) > api.MaxLog {
		return false
	}
	last := 1
	for _, e := range s.Log {
		if e.Term < last || e.Term > s.Term || len(e.Data) > api.MaxEntry {
			return false
		}
		last = e.Term
	}
	return true
}

// rightReach: may a leader know this of its peers?
func rightReach(s api.Seat) bool {
	n := len(s.Log)
	if len(s.Next) != len(s.Peers) || len(s.Match) != len(s.Peers) {
		return false
	}
	for i, p := range s.Peers {
		if s.Match[i] < 0 || s.Match[i] > n || s.Next[i] <= s.Match[i] || s.Next[i] > n+1 || p == s.Id && s.Match[i] != n {
			return false
		}
	}
	return true
}

// isFor: is a message for a seat?
func isFor(s api.Seat, m api.Msg) bool {
	if m.To != s.Id || m.From == s.Id || !slices.Contains(s.Peers, m.From) || len(m.Nums) == 0 || !isTerm(m.Nums[0]) {
		return false
	}
	if slices.ContainsFunc(m.Nums, func(n int) bool { return n < 0 }) {
		return false
	}
	switch m.Kind {
	case api.MsgAsk:
		return len(m.Nums) == 3 && len(m.Data) == 0
	case api.MsgVote:
		return len(m.Nums) == 2 && m.Nums[1] <= 1 && len(m.Data) == 0
	case api.MsgPut:
		return rightEntries(m)
	case api.MsgTold:
		return len(m.Nums) == 3 && m.Nums[1] <= 1 && len(m.Data) == 0
	}
	return false
}

// rightEntries: may a message's entries be so?
func rightEntries(m api.Msg) bool {
	many := len(m.Nums) - numbersAhead
	if many < 0 || many%2 != 0 || many/2 > api.MaxPut {
		return false
	}
	last, bytes := max(m.Nums[2], 1), 0
	for i := numbersAhead; i < len(m.Nums); i += 2 {
		term, size := m.Nums[i], m.Nums[i+1]
		if term < last || term > m.Nums[0] || size > api.MaxEntry {
			return false
		}
		last = term
		bytes += size
	}
	return bytes == len(m.Data)
}

// entries are those of a message.
func entries(m api.Msg) []api.Entry {
	var l []api.Entry
	at := 0
	for i := numbersAhead; i < len(m.Nums); i += 2 {
		to := at + m.Nums[i+1]
		l = append(l, api.Entry{Term: m.Nums[i], Data: m.Data[at:to:to]})
		at = to
	}
	return l
}
