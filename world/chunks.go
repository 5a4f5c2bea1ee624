package world

import (
	"cmp"
	"slices"

	"catacomb/api"
	"catacomb/chunk"
	"catacomb/disk"
	"catacomb/mend"
	"catacomb/scrub"
	"catacomb/sweep"
	"catacomb/tree"
)

// maxBudget is how many bytes a turn may mend.
const maxBudget = 4096

// laid is a world in which bytes stand as a chunk on each server that lets them, and its number; false, if there is no number left, or no such server.
func laid(w api.World, data []byte) (api.World, int, bool) {
	id := w.Next
	if id >= api.MaxChunks {
		return w, 0, false
	}
	x := chunk.New(id, 1, data)
	c := api.Chain{Id: id, Ver: x.Ver}
	disks := slices.Clone(w.Disks)
	for s, d := range disks {
		d, err := chunk.Put(d, x)
		if err != api.OK {
			continue
		}
		if d, err = disk.Sync(d); err == api.OK {
			disks[s] = d
			c.Servers = append(c.Servers, s)
		}
	}
	if len(c.Servers) == 0 {
		return w, 0, false
	}
	w.Disks, w.Chains, w.Next = disks, more(w.Chains, c), id+1
	return w, id, true
}

// file is where a file's numbers stand, or would stand, and whether it has some.
func file(w api.World, ino int) (int, bool) {
	return slices.BinarySearchFunc(w.Files, ino, func(l api.Laid, ino int) int { return cmp.Compare(l.Ino, ino) })
}

func store(w api.World, t api.Turn) (api.World, bool) {
	n, ok := tree.Get(w.F.S.Now, t.N)
	if !ok || n.Kind != api.File {
		return w, false
	}
	l := api.Laid{Ino: t.N}
	for data := range slices.Chunk(n.Data, api.Chunk) {
		var id int
		if w, id, ok = laid(w, data); !ok {
			return w, false
		}
		l.Ids = append(l.Ids, id)
	}
	at, had := file(w, t.N)
	if !had {
		w.Files = slices.Insert(slices.Clone(w.Files), at, l)
	} else {
		w.Files = with(w.Files, at, func(api.Laid) api.Laid { return l })
	}
	return w, true
}

// onServer is a world in which a server's disk is changed; false, if there is no such server.
func onServer(w api.World, s int, change func(api.Disk) api.Disk) (api.World, bool) {
	if s < 0 || s >= len(w.Disks) {
		return w, false
	}
	w.Disks = with(w.Disks, s, change)
	return w, true
}

func rot(w api.World, t api.Turn) (api.World, bool) {
	return onServer(w, t.N, func(d api.Disk) api.Disk { return disk.Rot(d, t.M, t.From) })
}

func power(w api.World, t api.Turn) (api.World, bool) {
	return onServer(w, t.N, func(d api.Disk) api.Disk { return disk.Crash(d, t.M) })
}

func up(w api.World, t api.Turn) (api.World, bool) { return onServer(w, t.N, disk.Up) }

func repair(w api.World, t api.Turn) (api.World, bool) {
	if t.N < 1 || t.N > maxBudget {
		return w, false
	}
	w.Disks, w.Jobs, _ = mend.Round(w.Disks, w.Chains, w.Jobs, t.N)
	return w, true
}

func clean(w api.World, t api.Turn) (api.World, bool) {
	var named []api.Named
	ids := map[int]bool{}
	for _, l := range w.Files {
		for page, id := range l.Ids {
			named = append(named, api.Named{Ino: l.Ino, Page: page, Id: id})
			ids[id] = true
		}
	}
	w.Disks, _ = sweep.Sweep(named, nil, w.Leases, Clock(w, server), w.Disks)
	w.Chains = slices.DeleteFunc(slices.Clone(w.Chains), func(c api.Chain) bool { return !ids[c.Id] })
	return w, true
}

// Load is a file's bytes, out of chunks.
func Load(w api.World, ino int) ([]byte, api.Errno) {
	at, ok := file(w, ino)
	if !ok {
		return nil, api.ErrNone
	}
	var data []byte
	for _, id := range w.Files[at].Ids {
		i := slices.IndexFunc(w.Chains, func(c api.Chain) bool { return c.Id == id })
		if i < 0 {
			return nil, api.ErrRot
		}
		whole := scrub.Intact(w.Disks, w.Chains[i])
		if len(whole) == 0 {
			return nil, api.ErrRot
		}
		x, _ := chunk.Get(w.Disks[whole[0]], id)
		data = append(data, x.Data...)
	}
	return data, api.OK
}
