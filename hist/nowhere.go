package hist

import (
	"slices"

	"catacomb/api"
	"catacomb/fs"
)

// key is which calls were done, and a number that file systems share that are alike.
type key struct {
	done uint64
	mark uint64
}

// nowhere are file systems that led nowhere, by which calls were done.
type nowhere struct {
	counts uint64 // the calls of which it counts whether they were done
	seen   map[key][]api.FS
}

// newNowhere leaves aside calls that have not ended and alter nothing: whether they were done makes no difference to what may follow.
func newNowhere(r row) nowhere {
	n := nowhere{seen: map[key][]api.FS{}}
	for i, c := range r {
		if c.ended || !c.still() {
			n.counts |= 1 << i
		}
	}
	return n
}

func (n nowhere) key(done uint64, f api.FS) key { return key{done & n.counts, mark(f)} }

func (n nowhere) has(done uint64, f api.FS) bool {
	return slices.ContainsFunc(n.seen[n.key(done, f)], func(g api.FS) bool { return fs.Same(f, g) })
}

func (n nowhere) add(done uint64, f api.FS) {
	k := n.key(done, f)
	n.seen[k] = append(n.seen[k], f)
}

// plain is a file system without its ticks: of each only which snapshots were taken ahead of it is left, since no answer tells more of it. So two of which all answers, then and later, are the same are the same, though they came to be in another order.
func plain(f api.FS) api.FS {
	taken := f.S.Taken
	ahead := func(tick int) int {
		n := 0
		for _, s := range taken {
			if s.At < tick {
				n++
			}
		}
		return n
	}
	s := f.S
	s.Tick = 0
	s.Since, s.Pasts, s.Taken = slices.Clone(s.Since), slices.Clone(s.Pasts), slices.Clone(s.Taken)
	for i, since := range s.Since {
		s.Since[i] = ahead(since)
	}
	for i, p := range s.Pasts {
		s.Pasts[i].From, s.Pasts[i].Till = ahead(p.From), ahead(p.Till)
	}
	for i := range s.Taken {
		s.Taken[i].At = 0
	}
	f.S = s
	return f
}

// mark is a number of a file system's entries: alike ones have the same, unlike ones mostly not.
func mark(f api.FS) uint64 {
	var m uint64
	more := func(n int) { m = (m ^ uint64(n)) * 1099511628211 }
	for _, n := range f.S.Now.Nodes {
		more(n.Ino)
		more(len(n.Data))
		for _, e := range n.Ents {
			more(e.Ino)
			more(e.Cookie)
		}
	}
	return m
}
