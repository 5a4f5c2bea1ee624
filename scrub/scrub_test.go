package scrub

import (
	"bytes"
	"math/rand"
	"slices"
	"testing"

	"catacomb/api"
	"catacomb/chunk"
	"catacomb/disk"
)

func sameDisk(a api.Disk, b api.Disk) bool {
	pages := func(x, y []api.Page) bool {
		return slices.EqualFunc(x, y, func(p, q api.Page) bool { return p.At == q.At && bytes.Equal(p.Data, q.Data) })
	}
	return pages(a.Synced, b.Synced) && pages(a.Loose, b.Loose) && a.Down == b.Down
}

func same(a []api.Disk, b []api.Disk) bool { return slices.EqualFunc(a, b, sameDisk) }

// lay has a copy stand on a server.
func lay(l []api.Disk, s int, id int, ver int, data string) []api.Disk {
	l = slices.Clone(l)
	l[s], _ = chunk.Put(l[s], chunk.New(id, ver, []byte(data)))
	l[s], _ = disk.Sync(l[s])
	return l
}

func rot(l []api.Disk, s int, id int, bit int) []api.Disk {
	l = slices.Clone(l)
	l[s] = disk.Rot(l[s], id, bit)
	return l
}

func crash(l []api.Disk, s int) []api.Disk {
	l = slices.Clone(l)
	l[s] = disk.Crash(l[s], 0)
	return l
}

func ch(id int, ver int, servers ...int) api.Chain {
	return api.Chain{Id: id, Ver: ver, Servers: servers}
}

// P27.1: which chains are right.
func TestP271Right(t *testing.T) {
	for i, x := range []struct {
		l     []api.Chain
		right bool
	}{
		{nil, true}, {[]api.Chain{ch(0, 0), ch(199, 1<<40, 4, 0, 1, 2, 99)}, true}, {[]api.Chain{ch(-1, 0)}, false}, {[]api.Chain{ch(200, 0)}, false}, {[]api.Chain{ch(1, 0), ch(1, 0)}, false}, {[]api.Chain{ch(2, 0), ch(1, 0)}, false}, {[]api.Chain{ch(1, -1)}, false}, {[]api.Chain{ch(1, 1<<40+1)}, false}, {[]api.Chain{ch(1, 0, 1, 2, 3, 4, 5, 6)}, false}, {[]api.Chain{ch(1, 0, 1, 1)}, false}, {[]api.Chain{ch(1, 0, -1)}, false},
	} {
		if Right(x.l) != x.right {
			t.Errorf("%d: %v", i, !x.right)
		}
	}
}

// base: chunk 5 stands at server 0 to 5 as: intact, missing, rotten, stale, newer, away.
func base() []api.Disk {
	d := make([]api.Disk, 6)
	for s, ver := range map[int]int{0: 4, 2: 4, 3: 3, 4: 5, 5: 4} {
		d = lay(d, s, 5, ver, "abc")
	}
	return crash(rot(d, 2, 5, 9), 5)
}

// P27.1: how servers stand, in a chain's order.
func TestP271Look(t *testing.T) {
	c := ch(5, 4, 5, 4, 3, 2, 1)
	find := func(s int, what int) api.Find { return api.Find{Id: 5, Server: s, What: what} }
	if l := Look(base(), c); !slices.Equal(l, []api.Find{find(5, api.Away), find(4, api.Newer), find(3, api.Stale), find(2, api.Rotten), find(1, api.Missing)}) || len(Intact(base(), c)) != 0 {
		t.Error(l)
	}
	c = ch(5, 4, 9, 2, 0)
	if l := Look(base(), c); !slices.Equal(l, []api.Find{find(9, api.Away), find(2, api.Rotten)}) || !slices.Equal(Intact(base(), c), []int{0}) {
		t.Error(l)
	}
	if l := Look(base(), ch(5, 4)); len(l) != 0 || len(Intact(base(), ch(5, 4))) != 0 {
		t.Error(l)
	}
}

// P27.1: strays: by server, by number.
func TestP271Strays(t *testing.T) {
	d := lay(lay(lay(base(), 0, 7, 1, ""), 1, 7, 1, ""), 0, 3, 1, "")
	l := []api.Chain{ch(3, 1, 1), ch(5, 4, 0, 2, 3), ch(7, 9, 1)}
	want := []api.Find{{Id: 3, Server: 0, What: api.Stray}, {Id: 7, Server: 0, What: api.Stray}, {Id: 5, Server: 4, What: api.Stray}}
	if got := Strays(d, l); !slices.Equal(got, want) {
		t.Error(got)
	}
	if got := Strays(base(), nil); len(got) != 4 || got[1].Server != 2 {
		t.Error(got)
	}
}

// P27.1: what is planned: from whom, rising by server, and what is lost.
func TestP271Plan(t *testing.T) {
	d := lay(lay(make([]api.Disk, 2), 1, 0, 1, "xy"), 1, 9, 1, "")
	jobs, lost := Plan(d, []api.Chain{ch(0, 1, 0, 1)})
	if !slices.Equal(jobs, []api.Job{{Id: 0, Ver: 1, From: 1, To: 0, Have: 1, Left: 3}}) || len(lost) != 0 {
		t.Error(jobs, lost)
	}
	e := base()
	for i, x := range []struct {
		c    api.Chain
		to   []int
		from []int
		have int
		lost []int
	}{
		{ch(5, 4, 4, 0, 3, 2, 1), []int{1, 2, 3, 4}, []int{0, 0, 0, 0}, 1, nil}, {ch(5, 4, 5, 1), nil, nil, 0, []int{5}}, {ch(5, 4), nil, nil, 0, []int{5}}, {ch(5, 4, 0, 5, 9), nil, nil, 1, nil}, {ch(5, 3, 0, 1, 3), []int{0, 1}, []int{3, 3}, 1, nil},
	} {
		jobs, lost := Plan(e, []api.Chain{x.c})
		var want []api.Job
		for k, to := range x.to {
			want = append(want, api.Job{Id: 5, Ver: x.c.Ver, From: x.from[k], To: to, Have: x.have, Left: 4})
		}
		if !slices.Equal(jobs, want) || !slices.Equal(lost, x.lost) {
			t.Errorf("%d: %v, %v", i, jobs, lost)
		}
	}
	// three intact ones: each other one has its copy from the next one behind it, the last one from the last one ahead
	f := make([]api.Disk, 5)
	for _, s := range []int{1, 3} {
		f = lay(f, s, 8, 2, string(make([]byte, 10*s)))
	}
	jobs, _ = Plan(f, []api.Chain{ch(2, 1, 0), ch(8, 2, 4, 1, 0, 3, 2)})
	if want := []api.Job{{Id: 8, Ver: 2, From: 3, To: 0, Have: 2, Left: 31}, {Id: 8, Ver: 2, From: 3, To: 2, Have: 2, Left: 31}, {Id: 8, Ver: 2, From: 1, To: 4, Have: 2, Left: 11}}; !slices.Equal(jobs, want) {
		t.Error(jobs)
	}
	if _, lost := Plan(f, []api.Chain{ch(2, 1, 0), ch(3, 1), ch(8, 2, 1)}); !slices.Equal(lost, []int{2, 3}) {
		t.Error(lost)
	}
}

// P27.1: copying and cleaning, with errors in order.
func TestP271Copy(t *testing.T) {
	d := base()
	for i, x := range []struct {
		j   api.Job
		err api.Errno
	}{
		{api.Job{Id: 5, Ver: 4, From: 6, To: 0}, api.ErrArg}, {api.Job{Id: 5, Ver: 4, From: 0, To: 6}, api.ErrArg}, {api.Job{Id: 5, Ver: 4, From: -1, To: 0}, api.ErrArg}, {api.Job{Id: 5, Ver: 4, From: 0, To: -1}, api.ErrArg}, {api.Job{Id: 5, Ver: 4, From: 5, To: 0}, api.ErrDown}, {api.Job{Id: 5, Ver: 4, From: 1, To: 5}, api.ErrGone}, {api.Job{Id: 5, Ver: 4, From: 2, To: 5}, api.ErrRot}, {api.Job{Id: 200, Ver: 4, From: 0, To: 5}, api.ErrArg}, {api.Job{Id: 5, Ver: 3, From: 0, To: 5}, api.ErrStale}, {api.Job{Id: 5, Ver: 4, From: 0, To: 5}, api.ErrDown}, {api.Job{Id: 5, Ver: 4, From: 0, To: 1}, 0}, {api.Job{Id: 5, Ver: 5, From: 4, To: 0, Left: 77}, 0},
	} {
		want := d
		if x.err == api.OK {
			want = lay(d, x.j.To, 5, x.j.Ver, "abc")
		}
		if got, err := Copy(d, x.j); err != x.err || !same(got, want) {
			t.Errorf("%d: %d", i, err)
		}
	}
	for i, x := range []struct {
		f   api.Find
		err api.Errno
	}{{api.Find{Id: 5, Server: 6}, api.ErrArg}, {api.Find{Id: 5, Server: -1}, api.ErrArg}, {api.Find{Id: 200, Server: 0}, api.ErrArg}, {api.Find{Id: 5, Server: 1}, api.ErrGone}, {api.Find{Id: 5, Server: 5}, api.ErrDown}, {api.Find{Id: 5, Server: 2}, 0}, {api.Find{Id: 5, Server: 0, What: 3}, 0}} {
		got, err := Clean(d, x.f)
		if err != x.err || err != api.OK && !same(got, d) {
			t.Errorf("%d: %d", i, err)
		}
		if err != api.OK {
			continue
		}
		s := x.f.Server
		if len(chunk.Has(got[s])) != 0 || len(got[s].Loose) != 0 || !same(got[:s], d[:s]) || !same(got[s+1:], d[s+1:]) {
			t.Errorf("%d: %v", i, got[s])
		}
	}
}

// some are servers on which anything stands, and chains.
func some(r *rand.Rand) ([]api.Disk, []api.Chain) {
	d := make([]api.Disk, 1+r.Intn(6))
	for range r.Intn(30) {
		s, id := r.Intn(len(d)), r.Intn(4)
		d = lay(d, s, id, r.Intn(3), string(make([]byte, r.Intn(65))))
		if r.Intn(4) == 0 {
			d = rot(d, s, id, r.Intn(64))
		}
	}
	for s := range d {
		if r.Intn(5) == 0 {
			d = crash(d, s)
		}
	}
	var l []api.Chain
	for id := range 5 {
		if n := r.Intn(6); r.Intn(4) > 0 {
			l = append(l, ch(id, r.Intn(3), r.Perm(7)[:n]...))
		}
	}
	return d, l
}

// P27.2: each of a chain's servers is intact, or found, once.
func TestP272All(t *testing.T) {
	r := rand.New(rand.NewSource(1))
	for range 1000 {
		d, l := some(r)
		for _, c := range l {
			all := slices.Clone(Intact(d, c))
			for _, f := range Look(d, c) {
				all = append(all, f.Server)
				if f.Id != c.Id || f.What < api.Away || f.What > api.Newer {
					t.Fatal(f)
				}
			}
			want := slices.Clone(c.Servers)
			slices.Sort(all)
			slices.Sort(want)
			if !slices.Equal(all, want) {
				t.Fatal(c, all)
			}
		}
	}
}

// P27.3: behind all that is planned all servers of a chain that had an intact copy are intact, but those that are away.
func TestP273Mended(t *testing.T) {
	r := rand.New(rand.NewSource(2))
	for range 500 {
		d, l := some(r)
		jobs, lost := Plan(d, l)
		r.Shuffle(len(jobs), func(i, j int) { jobs[i], jobs[j] = jobs[j], jobs[i] })
		e := d
		for _, j := range jobs {
			var err api.Errno
			if e, err = Copy(e, j); err != api.OK {
				t.Fatal(j, err)
			}
		}
		for _, c := range l {
			was, now := Intact(d, c), Intact(e, c)
			if slices.Contains(lost, c.Id) != (len(was) == 0) {
				t.Fatal(c, lost)
			}
			for _, s := range c.Servers {
				away := s >= len(d) || d[s].Down
				if want := len(was) > 0 && !away; slices.Contains(now, s) != want && !slices.Contains(was, s) || slices.Contains(was, s) && !slices.Contains(now, s) {
					t.Fatal(c, s, was, now)
				}
			}
		}
	}
}

// P27.4: behind all strays that were cleaned there is none, and no server stands otherwise.
func TestP274Clean(t *testing.T) {
	r := rand.New(rand.NewSource(3))
	for range 500 {
		d, l := some(r)
		e := d
		for _, f := range Strays(d, l) {
			var err api.Errno
			if e, err = Clean(e, f); err != api.OK {
				t.Fatal(f, err)
			}
		}
		if s := Strays(e, l); len(s) > 0 {
			t.Fatal(s)
		}
		for _, c := range l {
			if !slices.Equal(Look(d, c), Look(e, c)) || !slices.Equal(Intact(d, c), Intact(e, c)) {
				t.Fatal(c)
			}
		}
	}
}

// P27.5: a bit that rots of an intact copy is found, and mended from another one.
func TestP275Rot(t *testing.T) {
	r := rand.New(rand.NewSource(4))
	for range 300 {
		d := make([]api.Disk, 3)
		data := string(make([]byte, r.Intn(65)))
		for s := range d {
			d = lay(d, s, 9, 2, data)
		}
		c := ch(9, 2, r.Perm(3)...)
		s := r.Intn(3)
		b, _ := disk.Read(d[s], 9)
		e := rot(d, s, 9, r.Intn(8*len(b)))
		if l := Look(e, c); !slices.Equal(l, []api.Find{{Id: 9, Server: s, What: api.Rotten}}) {
			t.Fatal(l)
		}
		jobs, _ := Plan(e, []api.Chain{c})
		if len(jobs) != 1 || jobs[0].To != s || jobs[0].From == s {
			t.Fatal(jobs)
		}
		if at := slices.Index(c.Servers, s); at < 2 && jobs[0].From != c.Servers[at+1] || at == 2 && jobs[0].From != c.Servers[1] {
			t.Fatal("not from who is next to it, the tail's side first", c, jobs)
		}
		if e, err := Copy(e, jobs[0]); err != api.OK || !same(e, d) {
			t.Fatal(err)
		}
	}
}
