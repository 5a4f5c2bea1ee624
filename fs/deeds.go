package fs

import (
	"slices"

	"catacomb/api"
	"catacomb/hold"
	"catacomb/name"
	"catacomb/quota"
	"catacomb/shot"
	"catacomb/tree"
)

func (w *work) look() api.Ans {
	n := w.walked(w.op.Path)
	return api.Ans{Ino: n.Ino, Kind: n.Kind}
}

func (w *work) make() api.Ans {
	dir, as := w.within(w.op.Path)
	t, ino, err := tree.Add(w.now, dir, as, w.op.N)
	need(err)
	w.now = t
	return api.Ans{Ino: ino, Kind: w.op.N}
}

func (w *work) link() api.Ans {
	n := w.walked(w.op.Path)
	dir, as := w.within(w.op.To)
	t, err := tree.Ln(w.now, n.Ino, dir, as)
	need(err)
	w.now = t
	return api.Ans{Ino: n.Ino}
}

func (w *work) unlink() api.Ans {
	dir, as := w.within(w.op.Path)
	t, ino, err := tree.Un(w.now, dir, as)
	need(err)
	w.now = t
	return api.Ans{Ino: ino}
}

func (w *work) rename() api.Ans {
	dir, as := w.within(w.op.Path)
	to, into := w.within(w.op.To)
	ino, _ := tree.Look(w.now, dir, as) // what is wrong with it the move tells, in its order
	t, _, err := tree.Mv(w.now, dir, as, to, into)
	need(err)
	w.now = t
	return api.Ans{Ino: ino}
}

func (w *work) list() api.Ans {
	n := w.walked(w.op.Path)
	ents, next, err := tree.List(w.now, n.Ino, w.op.N, w.op.M)
	need(err)
	return api.Ans{Names: names(ents), N: next}
}

func names(ents []api.Ent) []string {
	var l []string
	for _, e := range ents {
		l = append(l, e.Name)
	}
	return l
}

// stats are what is told of a node: how many links, and how many bytes, or entries, it has.
func stats(n api.Node) api.Ans {
	return api.Ans{Ino: n.Ino, Kind: n.Kind, N: n.Links, M: len(n.Data) + len(n.Ents)}
}

func (w *work) stat() api.Ans { return stats(w.walked(w.op.Path)) }

func (w *work) open() api.Ans {
	n := w.walked(w.op.Path)
	l, err := hold.Open(w.now, w.Holds, w.op.Client, w.op.Handle, n.Ino)
	need(err)
	w.Holds = l
	return api.Ans{Ino: n.Ino}
}

func (w *work) close() api.Ans {
	t, l, err := hold.Close(w.now, w.Holds, w.op.Client, w.op.Handle)
	need(err)
	w.now = t
	w.Holds = l
	return api.Ans{}
}

func (w *work) read() api.Ans {
	n := w.held()
	insist(w.op.N >= 0 && w.op.M >= 0 && w.op.M <= api.MaxFile)
	from := min(w.op.N, len(n.Data))
	to := min(from+w.op.M, len(n.Data))
	return api.Ans{Ino: n.Ino, Data: n.Data[from:to:to]}
}

func (w *work) write() api.Ans {
	n := w.held()
	insist(w.op.N >= 0 && w.op.N <= api.MaxFile)
	end := w.op.N + len(w.op.Data)
	if end > api.MaxFile {
		need(api.ErrBig)
	}
	if len(w.op.Data) == 0 {
		return w.filled(n, n.Data)
	}
	data := make([]byte, max(end, len(n.Data)))
	copy(data, n.Data)
	copy(data[w.op.N:], w.op.Data)
	return w.filled(n, data)
}

func (w *work) cut() api.Ans {
	n := w.held()
	insist(w.op.N >= 0)
	return w.filled(n, n.Data[:min(w.op.N, len(n.Data))])
}

// filled has a file have bytes.
func (w *work) filled(n api.Node, data []byte) api.Ans {
	t, err := tree.Put(w.now, n.Ino, data)
	need(err)
	w.now = t
	return api.Ans{Ino: n.Ino, M: len(data)}
}

func (w *work) limit() api.Ans {
	n := w.walked(w.op.Path)
	l, err := quota.Set(w.now, w.Quotas, n.Ino, w.op.N, w.op.M)
	need(err)
	w.Quotas = l
	return api.Ans{Ino: n.Ino}
}

func (w *work) take() api.Ans {
	n := w.walked(w.op.Path)
	s, id, err := shot.Take(w.S, n.Ino)
	need(err)
	w.S = s
	return api.Ans{N: id}
}

func (w *work) peek() api.Ans {
	ino, nodes, err := shot.At(w.S, w.op.N)
	need(err)
	path, err := name.Split(w.op.Path)
	need(err)
	at := func(ino int) api.Node {
		i := slices.IndexFunc(nodes, func(n api.Node) bool { return n.Ino == ino })
		if i < 0 {
			need(api.ErrNone)
		}
		return nodes[i]
	}
	n := at(ino)
	for _, s := range path {
		if n.Kind != api.Dir {
			need(api.ErrNot)
		}
		i := slices.IndexFunc(n.Ents, func(e api.Ent) bool { return e.Name == s })
		if i < 0 {
			need(api.ErrNone)
		}
		n = at(n.Ents[i].Ino)
	}
	a := stats(n)
	a.Names, a.Data = names(n.Ents), n.Data
	return a
}

func (w *work) drop() api.Ans {
	s, err := shot.Drop(w.S, w.op.N)
	need(err)
	w.S = s
	return api.Ans{}
}

func (w *work) crash() api.Ans {
	t, l := hold.Gone(w.now, w.Holds, w.op.Client)
	w.now = t
	w.Holds = l
	return api.Ans{}
}
