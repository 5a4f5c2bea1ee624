package sweep

import (
	"bytes"
	"math/rand"
	"slices"
	"testing"

	"catacomb/api"
	"catacomb/chunk"
	"catacomb/clock"
	"catacomb/disk"
	"catacomb/lease"
)

func put(d api.Disk, ids ...int) api.Disk {
	for _, id := range ids {
		d, _ = chunk.Put(d, chunk.New(id, 1, []byte{byte(id)}))
	}
	return d
}

func sync(d api.Disk) api.Disk { d, _ = disk.Sync(d); return d }

func sameDisk(a api.Disk, b api.Disk) bool {
	pages := func(x, y []api.Page) bool {
		return slices.EqualFunc(x, y, func(p, q api.Page) bool { return p.At == q.At && bytes.Equal(p.Data, q.Data) })
	}
	return pages(a.Synced, b.Synced) && pages(a.Loose, b.Loose) && a.Down == b.Down
}

func own(client int, ino int, until int) api.Lease {
	return api.Lease{Client: client, Ino: ino, Kind: api.Own, Span: api.Span{From: 0, To: 9}, Until: until}
}

// P29.1: what is kept: what is named, and rooms that are open.
func TestP291Keeps(t *testing.T) {
	named := []api.Named{{Ino: 9, Shot: 2, Page: 1, Id: 3}, {Ino: 4, Id: 8}, {Ino: 4, Page: 1, Id: 3}}
	share := own(1, 5, 99)
	share.Kind = api.Share
	rooms := []api.Room{{Id: 7, Ino: 5, Client: 1}, {Id: 2, Ino: 5, Client: 2}, {Id: 3, Ino: 5, Client: 2}, {Id: 6, Ino: 6, Client: 2}}
	leases := []api.Lease{share, own(2, 5, 9), own(1, 6, 99)}
	for now, want := range map[int][]int{8: {2, 3, 8}, 9: {3, 8}, 10: {3, 8}, -1: {2, 3, 8}} {
		if l := Keeps(named, rooms, leases, now); !slices.Equal(l, want) {
			t.Error(now, l)
		}
	}
	if l := Keeps(nil, rooms, append(leases, own(1, 5, 10), own(1, 5, 3)), 9); !slices.Equal(l, []int{7}) {
		t.Error(l)
	}
	if l := Keeps(nil, nil, leases, 0); len(l) != 0 {
		t.Error(l)
	}
}

// P29.1: the examples; what is gone, and what a sweep leaves.
func TestP291Sweep(t *testing.T) {
	down := disk.Crash(sync(put(disk.New(), 9)), 0)
	loose := put(sync(put(disk.New(), 3, 5)), 4)
	kept := put(sync(put(disk.New(), 3)), 2)
	rooms := []api.Room{{Id: 4, Ino: 5, Client: 1}, {Id: 5, Ino: 5, Client: 2}, {Id: 2, Ino: 5, Client: 1}}
	disks := []api.Disk{loose, down, kept, disk.New()}
	named := []api.Named{{Ino: 2, Shot: 7, Id: 3}}
	leases := []api.Lease{own(1, 5, 9)}
	for now, want := range map[int][]int{8: {5}, 9: {2, 4, 5}} {
		if l := Gone(named, rooms, leases, now, disks); !slices.Equal(l, want) {
			t.Error(now, l)
		}
	}
	got, left := Sweep(named, rooms, leases, 8, disks)
	lost, _ := chunk.Lose(loose, 5)
	if want := []api.Disk{sync(lost), down, kept, disk.New()}; !slices.EqualFunc(got, want, sameDisk) || !slices.Equal(left, []api.Room{rooms[0], rooms[2]}) {
		t.Error(got, left)
	}
	got, left = Sweep(named, rooms, leases, 9, disks)
	if len(left) != 0 || !slices.Equal(chunk.Has(got[0]), []int{3}) || !slices.Equal(chunk.Has(got[2]), []int{3}) || len(got[0].Loose) != 0 || !sameDisk(got[1], down) {
		t.Error(got, left)
	}
	if !sameDisk(disks[0], loose) {
		t.Error("what was handed in is changed")
	}
}

// state is all that a sweep looks at.
type state struct {
	named  []api.Named
	rooms  []api.Room
	leases []api.Lease
	now    int
	disks  []api.Disk
}

func some(r *rand.Rand) state {
	s := state{now: r.Intn(20)}
	for range r.Intn(5) {
		s.named = append(s.named, api.Named{Ino: r.Intn(3), Shot: r.Intn(2), Page: r.Intn(3), Id: r.Intn(12)})
	}
	for range r.Intn(5) {
		s.rooms = append(s.rooms, api.Room{Id: r.Intn(12), Ino: r.Intn(3), Client: r.Intn(3)})
	}
	for range r.Intn(5) {
		l := own(r.Intn(3), r.Intn(3), r.Intn(20))
		l.Kind = 1 + r.Intn(2)
		s.leases = append(s.leases, l)
	}
	for range 1 + r.Intn(4) {
		var d api.Disk
		for range r.Intn(8) {
			d = put(d, r.Intn(12))
			if r.Intn(3) == 0 {
				d = sync(d)
			}
		}
		if r.Intn(4) == 0 {
			d = disk.Crash(d, r.Intn(3))
		}
		s.disks = append(s.disks, d)
	}
	return s
}

func (s state) keeps() []int { return Keeps(s.named, s.rooms, s.leases, s.now) }

func (s state) gone() []int { return Gone(s.named, s.rooms, s.leases, s.now, s.disks) }

// P29.2: what is named, or in an open room, is had behind a sweep as it was. P29.3: nothing else is, on servers with power.
func TestP292Named(t *testing.T) {
	r := rand.New(rand.NewSource(1))
	for range 1000 {
		s := some(r)
		got, _ := Sweep(s.named, s.rooms, s.leases, s.now, s.disks)
		for _, id := range s.keeps() {
			for i := range got {
				a, e1 := chunk.Get(s.disks[i], id)
				b, e2 := chunk.Get(got[i], id)
				if e1 != e2 || !bytes.Equal(a.Data, b.Data) {
					t.Fatal(id, i, e1, e2)
				}
			}
		}
	}
}

func TestP293AllElse(t *testing.T) {
	r := rand.New(rand.NewSource(2))
	for range 1000 {
		s := some(r)
		got, rooms := Sweep(s.named, s.rooms, s.leases, s.now, s.disks)
		for i, d := range got {
			for _, id := range chunk.Has(d) {
				if !slices.Contains(s.keeps(), id) {
					t.Fatal("left", id)
				}
			}
			if d.Down != s.disks[i].Down || d.Down && !sameDisk(d, s.disks[i]) {
				t.Fatal("a server without power")
			}
			if lost := len(chunk.Has(d)) < len(chunk.Has(s.disks[i])); lost && !slices.Equal(chunk.Has(disk.Up(disk.Crash(d, 0))), chunk.Has(d)) {
				t.Fatal("not so behind a crash")
			} else if !lost && !sameDisk(d, s.disks[i]) {
				t.Fatal("altered, though nothing is lost")
			}
		}
		again, rooms2 := Sweep(s.named, rooms, s.leases, s.now, got)
		if !slices.EqualFunc(got, again, sameDisk) || !slices.Equal(rooms, rooms2) {
			t.Fatal("swept once more")
		}
	}
}

func within(a []int, b []int) bool {
	return !slices.ContainsFunc(a, func(n int) bool { return !slices.Contains(b, n) })
}

// P29.4: what is gone at a time is gone later; what one names more, or holds more, only keeps more.
func TestP294Later(t *testing.T) {
	r := rand.New(rand.NewSource(3))
	for range 1000 {
		s := some(r)
		later := s
		later.now += r.Intn(9)
		if !within(s.gone(), later.gone()) || !within(later.keeps(), s.keeps()) {
			t.Fatal(s)
		}
		more := some(r)
		for i, with := range []state{{named: more.named}, {rooms: more.rooms}, {leases: more.leases}} {
			u := s
			u.named, u.rooms, u.leases = slices.Concat(s.named, with.named), slices.Concat(s.rooms, with.rooms), slices.Concat(s.leases, with.leases)
			if !within(s.keeps(), u.keeps()) || !within(u.gone(), s.gone()) {
				t.Fatal(i, s)
			}
		}
		for _, id := range s.gone() {
			if slices.Contains(s.keeps(), id) {
				t.Fatal("kept and gone", id)
			}
		}
	}
}

// P29.5: what a client writes by its own clock, while its lease may be, is never gone by the server's clock.
func TestP295Clocks(t *testing.T) {
	d := []api.Disk{sync(put(disk.New(), 3))}
	rooms := []api.Room{{Id: 3, Ino: 5, Client: 1}}
	for many := 1; many <= 64; many++ {
		asked := own(1, 5, 0)
		leases, ok, _ := lease.Ask(nil, 100, asked, many)
		if !ok {
			t.Fatal(many)
		}
		for went := range 90 {
			if clock.Least(went) >= many { // by its own clock, the slowest there may be, it may not write any more
				break
			}
			for _, now := range []int{100 + clock.Least(went), 100 + clock.Most(went)} {
				if l := Gone(nil, rooms, leases, now, d); len(l) > 0 {
					t.Fatal(many, went, now, l)
				}
			}
		}
		if l := Gone(nil, rooms, leases, leases[0].Until, d); !slices.Equal(l, []int{3}) {
			t.Fatal("never gone", many)
		}
	}
}
