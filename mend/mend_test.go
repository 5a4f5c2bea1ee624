package mend

import (
	"math"
	"math/rand"
	"slices"
	"testing"

	"catacomb/api"
	"catacomb/chunk"
	"catacomb/disk"
	"catacomb/scrub"
)

// jb is a job by Have, Id, To and Left.
func jb(have int, id int, to int, left int) api.Job {
	return api.Job{Id: id, Ver: 3, From: to + 1, To: to, Have: have, Left: left}
}

func alter(j api.Job, with func(j *api.Job)) api.Job { with(&j); return j }

// P28.1: which queues are right.
func TestP281Right(t *testing.T) {
	ok := jb(2, 1, 0, 5)
	for i, x := range []struct {
		l     []api.Job
		right bool
	}{
		{nil, true}, {[]api.Job{jb(1, 4, 3, 4), ok}, true}, {[]api.Job{ok, jb(1, 4, 3, 4)}, false}, {[]api.Job{ok, ok}, false}, {[]api.Job{jb(1, 1, 0, 5), ok}, false}, {[]api.Job{ok, jb(2, 1, 1, 5), jb(2, 2, 0, 5), jb(3, 0, 0, 5)}, true}, {[]api.Job{ok, jb(2, 0, 1, 5)}, false}, {[]api.Job{jb(2, 1, 1, 5), ok}, false},
		{[]api.Job{alter(ok, func(j *api.Job) { j.Id = -1 })}, false}, {[]api.Job{alter(ok, func(j *api.Job) { j.Id = 200 })}, false}, {[]api.Job{alter(ok, func(j *api.Job) { j.Id = 199 })}, true}, {[]api.Job{alter(ok, func(j *api.Job) { j.Ver = -1 })}, false}, {[]api.Job{alter(ok, func(j *api.Job) { j.Ver = 1 << 40 })}, true}, {[]api.Job{alter(ok, func(j *api.Job) { j.Ver = 1<<40 + 1 })}, false},
		{[]api.Job{alter(ok, func(j *api.Job) { j.From = -1 })}, false}, {[]api.Job{alter(ok, func(j *api.Job) { j.From = 1 << 40 })}, true}, {[]api.Job{alter(ok, func(j *api.Job) { j.From = 1<<40 + 1 })}, false}, {[]api.Job{alter(ok, func(j *api.Job) { j.To = -1 })}, false}, {[]api.Job{alter(ok, func(j *api.Job) { j.To = 1<<40 + 1 })}, false}, {[]api.Job{alter(ok, func(j *api.Job) { j.To = j.From })}, false},
		{[]api.Job{jb(0, 1, 0, 5)}, false}, {[]api.Job{jb(5, 1, 0, 5)}, true}, {[]api.Job{jb(6, 1, 0, 5)}, false}, {[]api.Job{jb(2, 1, 0, 0)}, false}, {[]api.Job{jb(2, 1, 0, 65)}, true}, {[]api.Job{jb(2, 1, 0, 66)}, false},
	} {
		if Right(x.l) != x.right {
			t.Errorf("%d: %v", i, !x.right)
		}
	}
}

// P28.1: the examples; order, renewal and steps by words.
func TestP281Rows(t *testing.T) {
	a, b := jb(1, 4, 3, 4), jb(2, 1, 0, 5)
	for i, x := range [][2][]api.Job{
		{Order([]api.Job{b, a}), {a, b}}, {Order(nil), nil}, {Order([]api.Job{jb(0, 1, 0, 1), b, jb(2, 1, 0, 9), jb(1, 1, 0, 9), a, jb(1, 4, 3, 66)}), {a, b}}, {Order([]api.Job{jb(2, 1, 0, 66), jb(3, 1, 0, 7), b}), {jb(3, 1, 0, 7)}},
		{Renew([]api.Job{jb(1, 4, 3, 2), jb(2, 1, 0, 9)}, []api.Job{a, b}), {jb(1, 4, 3, 2), b}}, {Renew(nil, []api.Job{a, b}), {a, b}}, {Renew([]api.Job{a, b}, nil), nil}, {Renew([]api.Job{alter(a, func(j *api.Job) { j.Ver, j.Left = 2, 1 }), jb(2, 1, 1, 1), jb(2, 2, 0, 1)}, []api.Job{a, b}), {a, b}},
		{Renew([]api.Job{alter(a, func(j *api.Job) { j.Have, j.From, j.Left = 5, 99, 1 })}, []api.Job{a}), {jb(1, 4, 3, 1)}},
	} {
		if !slices.Equal(x[0], x[1]) {
			t.Errorf("%d: %v", i, x[0])
		}
	}
	plan := []api.Job{a, b}
	if Renew([]api.Job{jb(1, 4, 3, 2)}, plan); !slices.Equal(plan, []api.Job{a, b}) {
		t.Error("a plan that was handed in is changed")
	}
	zero := func(j api.Job) api.Job { j.Left = 0; return j }
	for budget, want := range map[int][2][]api.Job{
		6: {{jb(2, 1, 0, 3)}, {zero(a)}}, 0: {{a, b}, nil}, -9: {{a, b}, nil}, math.MinInt: {{a, b}, nil}, 3: {{jb(1, 4, 3, 1), b}, nil}, 4: {{b}, {zero(a)}}, 8: {{jb(2, 1, 0, 1)}, {zero(a)}}, 9: {nil, {zero(a), zero(b)}}, math.MaxInt: {nil, {zero(a), zero(b)}},
	} {
		l := []api.Job{a, b}
		if left, ended := Step(l, budget); !slices.Equal(left, want[0]) || !slices.Equal(ended, want[1]) || !slices.Equal(l, []api.Job{a, b}) {
			t.Error(budget, left, ended)
		}
	}
	for budget, want := range map[int]int{4: 3, 9: 1, 8: 2, 1: 9, 3: 3, math.MaxInt: 1, 0: -1, -3: -1} {
		if n := Steps([]api.Job{a, b}, budget); n != want {
			t.Error(budget, n)
		}
		if n := Steps(nil, budget); n != 0 {
			t.Error(budget, n)
		}
	}
}

func sameDisks(a []api.Disk, b []api.Disk) bool {
	return slices.EqualFunc(a, b, func(x, y api.Disk) bool {
		return x.Down == y.Down && slices.EqualFunc(x.Synced, y.Synced, func(p, q api.Page) bool { return p.At == q.At && string(p.Data) == string(q.Data) }) && len(x.Loose) == len(y.Loose)
	})
}

// lay has a copy stand on a server.
func lay(l []api.Disk, s int, id int, ver int, data string) []api.Disk {
	l = slices.Clone(l)
	l[s], _ = chunk.Put(l[s], chunk.New(id, ver, []byte(data)))
	l[s], _ = disk.Sync(l[s])
	return l
}

// P28.1: jobs are done one behind the other, on what the ones ahead left; a round is a plan, a step, and what that ended.
func TestP281Do(t *testing.T) {
	d := lay(make([]api.Disk, 4), 2, 7, 3, "abcde")
	l := []api.Job{{Id: 7, Ver: 3, From: 1, To: 0}, {Id: 7, Ver: 3, From: 2, To: 1}, {Id: 7, Ver: 3, From: 1, To: 0}, {Id: 7, Ver: 9, From: 1, To: 3}, {Id: 7, Ver: 3, From: 9, To: 3}}
	got, done := Do(d, l)
	if want := lay(lay(d, 1, 7, 3, "abcde"), 0, 7, 3, "abcde"); !sameDisks(got, want) || !slices.Equal(done, l[1:3]) {
		t.Error(done)
	}
	chains := []api.Chain{{Id: 7, Ver: 3, Servers: []int{0, 2, 1}}, {Id: 8, Ver: 1, Servers: []int{0}}}
	to0, to1 := api.Job{Id: 7, Ver: 3, From: 2, To: 0, Have: 1, Left: 6}, api.Job{Id: 7, Ver: 3, From: 2, To: 1, Have: 1, Left: 6}
	got, left, done := Round(d, chains, nil, 8)
	ended := to0
	ended.Left = 0
	rest := to1
	rest.Left = 4
	if !sameDisks(got, lay(d, 0, 7, 3, "abcde")) || !slices.Equal(left, []api.Job{rest}) || !slices.Equal(done, []api.Job{ended}) {
		t.Error(left, done)
	}
	got, left, done = Round(got, chains, left, 4)
	ended = api.Job{Id: 7, Ver: 3, From: 2, To: 1, Have: 2}
	if !sameDisks(got, lay(lay(d, 0, 7, 3, "abcde"), 1, 7, 3, "abcde")) || len(left) != 0 || !slices.Equal(done, []api.Job{ended}) {
		t.Error(left, done)
	}
	if same, left, done := Round(got, chains, []api.Job{to0}, 99); !sameDisks(same, got) || len(left)+len(done) != 0 {
		t.Error(left, done)
	}
}

func some(r *rand.Rand) []api.Job {
	var l []api.Job
	for range r.Intn(12) {
		l = append(l, jb(1+r.Intn(5), r.Intn(5), r.Intn(4), 1+r.Intn(65)))
	}
	return Order(l)
}

func total(l []api.Job) int {
	n := 0
	for _, j := range l {
		n += j.Left
	}
	return n
}

// P28.2: no more bytes are spent than the budget, and no fewer as long as some job lacks some.
func TestP282Budget(t *testing.T) {
	r := rand.New(rand.NewSource(1))
	for range 3000 {
		l := some(r)
		budget := r.Intn(300) - 20
		left, ended := Step(l, budget)
		if spent := total(l) - total(left); spent != min(max(budget, 0), total(l)) || len(left)+len(ended) != len(l) || total(ended) != 0 || !Right(left) || !Right(l) {
			t.Fatal(l, budget, left, ended)
		}
	}
}

// P28.3: no job gets a byte while one ahead of it lacks some.
func TestP283First(t *testing.T) {
	r := rand.New(rand.NewSource(2))
	for range 3000 {
		l := some(r)
		left, ended := Step(l, r.Intn(300))
		for i, j := range l {
			switch {
			case i < len(ended):
				if targetOf(ended[i]) != targetOf(j) {
					t.Fatal("another order", l, ended)
				}
			case i > len(ended):
				if left[i-len(ended)] != j {
					t.Fatal("a job got bytes while one ahead lacks some", l, left)
				}
			}
		}
		if !slices.IsSortedFunc(l, func(a, b api.Job) int { return a.Have - b.Have }) {
			t.Fatal("more copies come first", l)
		}
	}
}

// P28.4: behind as many steps as Steps tells no job is left, behind one less some is; two steps are one of both together.
func TestP284Ends(t *testing.T) {
	r := rand.New(rand.NewSource(3))
	for range 3000 {
		l := some(r)
		budget := 1 + r.Intn(100)
		n := Steps(l, budget)
		left := l
		for i := range n {
			if len(left) == 0 {
				t.Fatal("ended early", l, budget, i)
			}
			left, _ = Step(left, budget)
		}
		if len(left) != 0 || n != (total(l)+budget-1)/budget {
			t.Fatal("not ended", l, budget, n)
		}
		a, b := r.Intn(200), r.Intn(200)
		x, e1 := Step(l, a)
		x, e2 := Step(x, b)
		if y, e := Step(l, a+b); !slices.Equal(x, y) || !slices.Equal(slices.Concat(e1, e2), e) {
			t.Fatal(l, a, b)
		}
	}
}

// P28.5: behind as many rounds as Steps tells of the first plan nothing is planned any more.
func TestP285Whole(t *testing.T) {
	r := rand.New(rand.NewSource(4))
	for range 300 {
		d := make([]api.Disk, 2+r.Intn(5))
		for range r.Intn(30) {
			d = lay(d, r.Intn(len(d)), r.Intn(6), r.Intn(3), string(make([]byte, r.Intn(65))))
		}
		for s := range d {
			if r.Intn(5) == 0 {
				d[s] = disk.Crash(d[s], 0)
			}
		}
		var chains []api.Chain
		for id := range 7 {
			chains = append(chains, api.Chain{Id: id, Ver: r.Intn(3), Servers: r.Perm(7)[:r.Intn(6)]})
		}
		plan, _ := scrub.Plan(d, chains)
		budget := 1 + r.Intn(150)
		n := Steps(Order(plan), budget)
		e, left := d, []api.Job(nil)
		for range n {
			e, left, _ = Round(e, chains, left, budget)
			for _, c := range chains {
				for _, s := range scrub.Intact(d, c) {
					if !slices.Contains(scrub.Intact(e, c), s) {
						t.Fatal("what was intact is not so still")
					}
				}
			}
		}
		if again, _ := scrub.Plan(e, chains); len(again) > 0 || len(left) > 0 {
			t.Fatal(again, left, n, budget)
		}
		for _, c := range chains {
			if len(scrub.Intact(d, c)) == 0 {
				continue
			}
			for _, f := range scrub.Look(e, c) {
				if f.What != api.Away {
					t.Fatal(f)
				}
			}
		}
	}
}
