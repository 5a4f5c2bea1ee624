package fs

import (
	"slices"

	"catacomb/acts"
	"catacomb/api"
	"catacomb/hold"
	"catacomb/name"
	"catacomb/quota"
	"catacomb/shot"
	"catacomb/tree"
)

func (w *work) open() api.Ans {
	n := w.Walked(w.Op.Path)
	l, err := hold.Open(w.Now, w.Holds, w.Op.Client, w.Op.Handle, n.Ino)
	acts.Need(err)
	w.Holds = l
	return api.Ans{Ino: n.Ino}
}

func (w *work) close() api.Ans {
	t, l, err := hold.Close(w.Now, w.Holds, w.Op.Client, w.Op.Handle)
	acts.Need(err)
	w.Now = t
	w.Holds = l
	return api.Ans{}
}

func (w *work) read() api.Ans {
	n := w.held()
	insist(w.Op.N >= 0 && w.Op.M >= 0 && w.Op.M <= api.MaxFile)
	from := min(w.Op.N, len(n.Data))
	to := min(from+w.Op.M, len(n.Data))
	return api.Ans{Ino: n.Ino, Data: n.Data[from:to:to]}
}

func (w *work) write() api.Ans {
	n := w.held()
	insist(w.Op.N >= 0 && w.Op.N <= api.MaxFile)
	end := w.Op.N + len(w.Op.Data)
	if end > api.MaxFile {
		acts.Need(api.ErrBig)
	}
	if len(w.Op.Data) == 0 {
		return w.filled(n, n.Data)
	}
	data := make([]byte, max(end, len(n.Data)))
	copy(data, n.Data)
	copy(data[w.Op.N:], w.Op.Data)
	return w.filled(n, data)
}

func (w *work) cut() api.Ans {
	n := w.held()
	insist(w.Op.N >= 0)
	return w.filled(n, n.Data[:min(w.Op.N, len(n.Data))])
}

// filled has a file have bytes.
func (w *work) filled(n api.Node, data []byte) api.Ans {
	t, err := tree.Put(w.Now, n.Ino, data)
	acts.Need(err)
	w.Now = t
	return api.Ans{Ino: n.Ino, M: len(data)}
}

func (w *work) limit() api.Ans {
	n := w.Walked(w.Op.Path)
	l, err := quota.Set(w.Now, w.Quotas, n.Ino, w.Op.N, w.Op.M)
	acts.Need(err)
	w.Quotas = l
	return api.Ans{Ino: n.Ino}
}

func (w *work) take() api.Ans {
	n := w.Walked(w.Op.Path)
	s, id, err := shot.Take(w.S, n.Ino)
	acts.Need(err)
	w.S = s
	return api.Ans{N: id}
}

func (w *work) peek() api.Ans {
	ino, nodes, err := shot.At(w.S, w.Op.N)
	acts.Need(err)
	path, err := name.Split(w.Op.Path)
	acts.Need(err)
	at := func(ino int) api.Node {
		i := slices.IndexFunc(nodes, func(n api.Node) bool { return n.Ino == ino })
		if i < 0 {
			acts.Need(api.ErrNone)
		}
		return nodes[i]
	}
	n := at(ino)
	for _, s := range path {
		if n.Kind != api.Dir {
			acts.Need(api.ErrNot)
		}
		i := slices.IndexFunc(n.Ents, func(e api.Ent) bool { return e.Name == s })
		if i < 0 {
			acts.Need(api.ErrNone)
		}
		n = at(n.Ents[i].Ino)
	}
	a := acts.Stats(n)
	a.Names, a.Data = acts.Names(n.Ents), n.Data
	return a
}

func (w *work) drop() api.Ans {
	s, err := shot.Drop(w.S, w.Op.N)
	acts.Need(err)
	w.S = s
	return api.Ans{}
}

func (w *work) crash() api.Ans {
	t, l := hold.Gone(w.Now, w.Holds, w.Op.Client)
	w.Now = t
	w.Holds = l
	return api.Ans{}
}
