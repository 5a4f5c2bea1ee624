package lease

import (
	"math/rand"
	"slices"
	"testing"

	"catacomb/api"
	"catacomb/clock"
)

const top = 1 << 40

func ls(client int, ino int, kind int, from int, to int, until int) api.Lease {
	return api.Lease{Client: client, Ino: ino, Kind: kind, Span: api.Span{From: from, To: to}, Until: until}
}

func many(n int) []api.Lease {
	var l []api.Lease
	for i := range n {
		l = append(l, ls(3, 7, api.Own, i, i+1, 99))
	}
	return l
}

// P22.1: which leases are right.
func TestP221Right(t *testing.T) {
	epoch := ls(0, 1, 1, 0, 1, 0)
	epoch.Epoch = -1
	for i, x := range []struct {
		l     []api.Lease
		right bool
	}{
		{nil, true}, {[]api.Lease{ls(0, 1, 1, 0, 1, 0)}, true}, {[]api.Lease{ls(15, 1, 2, 0, top, 1<<42)}, true}, {[]api.Lease{ls(-1, 1, 1, 0, 1, 0)}, false}, {[]api.Lease{ls(16, 1, 1, 0, 1, 0)}, false}, {[]api.Lease{ls(0, 0, 1, 0, 1, 0)}, false}, {[]api.Lease{ls(0, 1, 0, 0, 1, 0)}, false}, {[]api.Lease{ls(0, 1, 3, 0, 1, 0)}, false},
		{[]api.Lease{ls(0, 1, 1, 1, 1, 0)}, false}, {[]api.Lease{ls(0, 1, 1, -1, 1, 0)}, false}, {[]api.Lease{ls(0, 1, 1, 0, top+1, 0)}, false}, {[]api.Lease{ls(0, 1, 1, 0, 1, -1)}, false}, {[]api.Lease{ls(0, 1, 1, 0, 1, 1<<42+1)}, false}, {[]api.Lease{epoch}, false},
		{[]api.Lease{ls(0, 1, 2, 0, 5, 0), ls(1, 1, 1, 4, 6, 0)}, false}, {[]api.Lease{ls(0, 1, 1, 0, 5, 0), ls(1, 1, 2, 4, 6, 0)}, false}, {[]api.Lease{ls(0, 1, 1, 0, 5, 0), ls(1, 1, 1, 4, 6, 0)}, true}, {[]api.Lease{ls(0, 1, 2, 0, 5, 0), ls(1, 1, 2, 5, 6, 0)}, true}, {[]api.Lease{ls(0, 1, 2, 0, 5, 0), ls(1, 2, 2, 4, 6, 0)}, true}, {[]api.Lease{ls(0, 1, 2, 0, 5, 0), ls(0, 1, 2, 4, 6, 0)}, true},
		{many(64), true}, {many(65), false},
	} {
		if Right(x.l) != x.right {
			t.Errorf("%d: %v", i, !x.right)
		}
	}
}

// P22.1: the examples, and what is asked wrongly.
func TestP221Ask(t *testing.T) {
	l, ok, who := Ask(nil, 10, ls(1, 5, api.Own, 0, 8, 77), 1)
	if want := []api.Lease{ls(1, 5, api.Own, 0, 8, 13)}; !ok || len(who) != 0 || !slices.Equal(l, want) {
		t.Fatal(l, ok, who)
	}
	had := []api.Lease{ls(1, 5, 2, 0, 8, 13)}
	epoch := ls(2, 5, 2, 8, 9, 0)
	epoch.Epoch = 4
	stay := ls(2, 5, 2, 8, 9, 12)
	stay.Epoch = 4
	for i, x := range []struct {
		l    []api.Lease
		now  int
		q    api.Lease
		many int
		want []api.Lease
		ok   bool
		who  []int
	}{
		{had, 10, ls(2, 5, 1, 4, 12, 0), 1, had, false, []int{1}}, {had, 10, ls(2, 5, 1, 8, 12, 0), 1, append(slices.Clone(had), ls(2, 5, 1, 8, 12, 13)), true, nil}, {had, 13, ls(2, 5, 2, 0, 8, 0), 1, []api.Lease{ls(2, 5, 2, 0, 8, 16)}, true, nil}, {had, 12, ls(2, 5, 2, 0, 8, 0), 1, had, false, []int{1}},
		{had, 99, ls(16, 5, 1, 4, 12, 0), 1, had, false, nil}, {had, 99, ls(2, 0, 1, 4, 12, 0), 1, had, false, nil}, {had, 99, ls(2, 5, 3, 4, 12, 0), 1, had, false, nil}, {had, 99, ls(2, 5, 1, 4, 4, 0), 1, had, false, nil}, {had, 99, ls(2, 5, 1, 4, 12, 0), 0, had, false, nil}, {had, 99, ls(2, 5, 1, 4, 12, 0), 65, had, false, nil}, {had, 99, api.Lease{Client: 2, Ino: 5, Kind: 1, Span: api.Span{From: 4, To: 12}, Epoch: -1}, 1, had, false, nil},
		{had, 10, ls(2, 5, 1, 4, 12, -5), 1, had, false, []int{1}}, {had, 99, ls(2, 5, 1, 4, 12, 1<<50), 1, []api.Lease{ls(2, 5, 1, 4, 12, 102)}, true, nil}, {nil, 5, ls(2, 5, 1, 4, 12, 0), 64, []api.Lease{ls(2, 5, 1, 4, 12, 5+clock.Wait(64))}, true, nil},
		{had, 9, ls(1, 5, 2, 0, 8, 0), 1, []api.Lease{ls(1, 5, 2, 0, 8, 12)}, true, nil}, {had, 9, ls(1, 5, 1, 0, 8, 0), 1, []api.Lease{had[0], ls(1, 5, 1, 0, 8, 12)}, true, nil}, {[]api.Lease{had[0], ls(2, 5, 1, 8, 9, 50)}, 9, ls(1, 5, 2, 0, 8, 0), 1, []api.Lease{ls(2, 5, 1, 8, 9, 50), ls(1, 5, 2, 0, 8, 12)}, true, nil},
		{[]api.Lease{ls(4, 5, 1, 0, 8, 13), ls(2, 5, 1, 0, 8, 13), ls(4, 5, 1, 3, 8, 13), ls(6, 5, 1, 8, 9, 13), ls(7, 5, 1, 0, 1, 10)}, 10, ls(3, 5, 2, 0, 8, 0), 1, []api.Lease{ls(4, 5, 1, 0, 8, 13), ls(2, 5, 1, 0, 8, 13), ls(4, 5, 1, 3, 8, 13), ls(6, 5, 1, 8, 9, 13)}, false, []int{2, 4}},
		{many(64), 9, ls(3, 8, 2, 0, 1, 0), 1, many(64), false, nil}, {many(64), 9, ls(3, 7, 2, 5, 6, 0), 1, append(slices.Delete(many(64), 5, 6), ls(3, 7, 2, 5, 6, 12)), true, nil}, {many(63), 9, ls(3, 8, 2, 0, 1, 0), 1, append(many(63), ls(3, 8, 2, 0, 1, 12)), true, nil}, {many(64), 9, ls(4, 7, 2, 0, 1, 0), 1, many(64), false, []int{3}},
		{nil, 9, epoch, 1, []api.Lease{stay}, true, nil}, {[]api.Lease{ls(2, 5, 1, 0, 8, 50), ls(1, 6, 1, 0, 8, 50)}, 9, ls(1, 5, 1, 0, 8, 0), 1, []api.Lease{ls(2, 5, 1, 0, 8, 50), ls(1, 6, 1, 0, 8, 50), ls(1, 5, 1, 0, 8, 12)}, true, nil},
	} {
		was := slices.Clone(x.l)
		got, ok, who := Ask(x.l, x.now, x.q, x.many)
		if !slices.Equal(got, x.want) || ok != x.ok || !slices.Equal(who, x.who) || !slices.Equal(x.l, was) {
			t.Errorf("%d: %v, %v, %v", i, got, ok, who)
		}
	}
}

// P22.1: what is over, given back and had.
func TestP221Others(t *testing.T) {
	l := []api.Lease{ls(1, 5, 2, 0, 4, 13), ls(1, 5, 1, 4, 8, 10), ls(2, 5, 1, 8, 9, 11), ls(1, 6, 1, 0, 9, 9)}
	for now, n := range map[int]int{0: 4, 8: 4, 9: 3, 10: 2, 12: 1, 13: 0} {
		if got := Over(l, now); len(got) != n {
			t.Error(now, got)
		}
	}
	if got := Over(l, 10); !slices.Equal(got, []api.Lease{l[0], l[2]}) {
		t.Error(got)
	}
	if got := Back(l, 1, 5); !slices.Equal(got, l[2:]) {
		t.Error(got)
	}
	for _, k := range [][2]int{{2, 6}, {3, 5}} {
		if got := Back(l, k[0], k[1]); !slices.Equal(got, l) {
			t.Error(k, got)
		}
	}
	for i, x := range []struct {
		client, ino, kind, from, to int
		has                         bool
	}{
		{1, 5, 1, 0, 8, true}, {1, 5, 2, 0, 4, true}, {1, 5, 2, 0, 5, false}, {1, 5, 1, 2, 6, true}, {1, 5, 1, 2, 9, false}, {2, 5, 1, 8, 9, true}, {2, 5, 2, 8, 9, false}, {3, 5, 1, 0, 1, false}, {1, 7, 1, 0, 1, false}, {1, 5, 1, 3, 3, false}, {1, 5, 1, 4, 3, false}, {1, 5, 1, -1, 3, false}, {1, 5, 0, 0, 3, false}, {1, 5, 3, 0, 3, false}, {1, 5, 1, 0, top + 1, false},
	} {
		if Has(l, x.client, x.ino, x.kind, api.Span{From: x.from, To: x.to}) != x.has {
			t.Errorf("%d: %v", i, !x.has)
		}
	}
	if whole := []api.Lease{ls(1, 1, 2, 0, top, 1)}; !Has(whole, 1, 1, 1, api.Span{From: 0, To: top}) {
		t.Error("all places")
	}
}

func someAsk(r *rand.Rand) api.Lease {
	from := r.Intn(8)
	return ls(r.Intn(4), 1+r.Intn(2), 1+r.Intn(2), from, from+1+r.Intn(4), 0)
}

// P22.2: whatever is asked, given back and over, no two clash.
func TestP222Apart(t *testing.T) {
	r := rand.New(rand.NewSource(1))
	for range 300 {
		var l []api.Lease
		now := 0
		for range 100 {
			switch now += r.Intn(3); r.Intn(6) {
			case 0:
				l = Back(l, r.Intn(4), 1+r.Intn(2))
			case 1:
				l = Over(l, now)
			default:
				l, _, _ = Ask(l, now, someAsk(r), 1+r.Intn(64))
			}
			if !Right(l) {
				t.Fatal(l)
			}
		}
	}
}

// P22.3: who is refused is told just those whose leases clash; when these are back, or over, it is had; who shares is not refused for who shares.
func TestP223Recalled(t *testing.T) {
	r := rand.New(rand.NewSource(2))
	refused := 0
	for range 3000 {
		var l []api.Lease
		for range r.Intn(12) {
			l, _, _ = Ask(l, 0, someAsk(r), 1+r.Intn(64))
		}
		q := someAsk(r)
		got, ok, who := Ask(l, 0, q, 5)
		var want []int
		for c := range 4 {
			if slices.ContainsFunc(l, func(x api.Lease) bool { return x.Client == c && clash(x, q) }) {
				want = append(want, c)
			}
		}
		if !slices.Equal(who, want) || ok != (len(want) == 0) {
			t.Fatal(l, q, who, want)
		}
		if ok {
			continue
		}
		refused++
		last := 0
		for _, x := range l {
			last = max(last, x.Until)
		}
		if _, ok, _ := Ask(got, last, q, 5); !ok {
			t.Fatal("all are over, and it is refused")
		}
		for _, c := range who {
			got = Back(got, c, q.Ino)
		}
		if _, ok, _ := Ask(got, 0, q, 5); !ok {
			t.Fatal("all are back, and it is refused")
		}
		shared := slices.DeleteFunc(slices.Clone(l), func(x api.Lease) bool { return x.Kind == api.Own })
		q.Kind = api.Share
		if _, ok, who := Ask(shared, 0, q, 5); !ok || len(who) > 0 {
			t.Fatal("who shares is refused")
		}
	}
	if refused < 500 {
		t.Error(refused)
	}
}

// P22.4: what is had is had, and each part of it, till it is back, or over.
func TestP224Had(t *testing.T) {
	r := rand.New(rand.NewSource(3))
	for range 3000 {
		var l []api.Lease
		for range r.Intn(6) {
			l, _, _ = Ask(l, 0, someAsk(r), 1+r.Intn(64))
		}
		q := someAsk(r)
		l = Back(l, q.Client, q.Ino)
		got, ok, _ := Ask(l, 0, q, 5)
		if !ok {
			continue
		}
		for from := q.Span.From; from < q.Span.To; from++ {
			for to := from + 1; to <= q.Span.To; to++ {
				s := api.Span{From: from, To: to}
				if !Has(got, q.Client, q.Ino, q.Kind, s) || !Has(got, q.Client, q.Ino, api.Share, s) || Has(got, q.Client, q.Ino, api.Own, s) != (q.Kind == api.Own) {
					t.Fatal(got, q, s)
				}
				if Has(Back(got, q.Client, q.Ino), q.Client, q.Ino, q.Kind, s) || Has(Over(got, clock.Wait(5)), q.Client, q.Ino, q.Kind, s) && !slices.ContainsFunc(Over(got, clock.Wait(5)), func(x api.Lease) bool { return x.Client == q.Client && x.Ino == q.Ino }) {
					t.Fatal("had, though it is back, or over")
				}
			}
		}
		if Has(got, q.Client, q.Ino, q.Kind, api.Span{From: q.Span.From, To: q.Span.To + 1}) {
			t.Fatal("more than is had")
		}
	}
}

// P22.5: who uses a lease by its own clock, uses it at no time at which the server let it go.
func TestP225Clocks(t *testing.T) {
	r := rand.New(rand.NewSource(4))
	shows := func(real int) int { return clock.Least(real) + r.Intn(clock.Most(real)-clock.Least(real)+1) }
	for range 20000 {
		many := 1 + r.Intn(64)
		delay, went := r.Intn(5), r.Intn(200) // the server answers later than the client asked
		client := shows(delay + went)
		if client >= many {
			continue
		}
		now := 1000 + r.Intn(50)
		l, _, _ := Ask(nil, now, ls(1, 1, 2, 0, 5, 0), many)
		server := now + shows(went)
		if len(Over(l, server)) == 0 {
			t.Fatal(many, delay, went, client, server-now)
		}
		if _, ok, _ := Ask(l, server, ls(2, 1, 1, 0, 5, 0), 1); ok {
			t.Fatal("another one has what clashes")
		}
	}
	// at the very edge: the slowest client, and the fastest server
	for many := 1; many <= 64; many++ {
		for went := range 100 {
			l, _, _ := Ask(nil, 0, ls(1, 1, 2, 0, 5, 0), many)
			if clock.Least(went) < many && len(Over(l, clock.Most(went))) == 0 {
				t.Fatal(many, went)
			}
		}
	}
}
