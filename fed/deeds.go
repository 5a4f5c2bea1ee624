package fed

import (
	"errors"
	"slices"

	"catacomb/api"
	"catacomb/name"
	"catacomb/shard"
	"catacomb/tree"
)

// work is a tree over pieces while an operation is done on it.
type work struct {
	pieces []api.Piece
	now    api.Tree
	op     api.Op
}

func deeds() map[int]func(*work) api.Ans {
	return map[int]func(*work) api.Ans{
		api.Look:   (*work).look,
		api.Make:   (*work).make,
		api.Link:   (*work).link,
		api.Unlink: (*work).unlink,
		api.Rename: (*work).rename,
		api.List:   (*work).list,
		api.Stat:   (*work).stat,
	}
}

// need leaves the operation with an error, unless that is OK.
func need(err api.Errno) {
	if err != api.OK {
		panic(err)
	}
}

// told is the error by which an operation was left.
func told(left any) api.Errno {
	var errno api.Errno
	if err, ok := left.(error); ok && errors.As(err, &errno) {
		return errno
	}
	return api.ErrArg
}

// Do does an operation.
func Do(f api.Fed, o api.Op) (after api.Fed, ans api.Ans) {
	defer func() {
		if left := recover(); left != nil {
			after, ans = f, api.Ans{Err: told(left)}
		}
	}()
	do, ok := deeds()[o.Kind]
	if !ok || o.Client < 0 || o.Client >= api.MaxClient {
		return f, api.Ans{Err: api.ErrArg}
	}
	w := &work{f.Pieces, Whole(f), o}
	ans = do(w)
	w.tidy()
	if !mayLie(w.pieces, w.now) {
		need(api.ErrCross)
	}
	return Spread(w.pieces, w.now), ans
}

// tidy frees files that nothing names any more.
func (w *work) tidy() {
	for _, n := range w.now.Nodes {
		if n.Kind == api.File && n.Links == 0 {
			w.now, _ = tree.Free(w.now, n.Ino)
		}
	}
}

// free leaves the operation, if it would have a piece go, or be elsewhere.
func (w *work) free(paths ...string) {
	for _, path := range paths {
		if _, _, err := name.Last(path); err != api.OK {
			return
		}
	}
	if _, err := tree.Walk(w.now, paths[0]); err != api.OK {
		return
	}
	for _, path := range paths {
		if slices.ContainsFunc(shard.Below(w.pieces, path), func(i int) bool { return w.pieces[i].Path != root }) {
			need(api.ErrPiece)
		}
	}
}

// walked is what a path is.
func (w *work) walked(path string) api.Node {
	ino, err := tree.Walk(w.now, path)
	need(err)
	n, ok := tree.Get(w.now, ino)
	if !ok {
		need(api.ErrNone)
	}
	return n
}

// within is a path's directory and name.
func (w *work) within(path string) (int, string) {
	last, to, err := name.Last(path)
	need(err)
	return w.walked(to).Ino, last
}

func (w *work) look() api.Ans {
	n := w.walked(w.op.Path)
	return api.Ans{Ino: n.Ino, Kind: n.Kind}
}

func (w *work) make() api.Ans {
	dir, as := w.within(w.op.Path)
	t, ino, err := tree.Add(w.now, dir, as, w.op.N)
	need(err)
	w.now = t
	return api.Ans{Ino: ino, Kind: w.op.N}
}

func (w *work) link() api.Ans {
	n := w.walked(w.op.Path)
	dir, as := w.within(w.op.To)
	t, err := tree.Ln(w.now, n.Ino, dir, as)
	need(err)
	w.now = t
	return api.Ans{Ino: n.Ino}
}

func (w *work) unlink() api.Ans {
	w.free(w.op.Path)
	dir, as := w.within(w.op.Path)
	t, ino, err := tree.Un(w.now, dir, as)
	need(err)
	w.now = t
	return api.Ans{Ino: ino}
}

func (w *work) rename() api.Ans {
	w.free(w.op.Path, w.op.To)
	dir, as := w.within(w.op.Path)
	to, into := w.within(w.op.To)
	ino, _ := tree.Look(w.now, dir, as) // what is wrong with it the move tells, in its order
	t, _, err := tree.Mv(w.now, dir, as, to, into)
	need(err)
	w.now = t
	return api.Ans{Ino: ino}
}

func (w *work) list() api.Ans {
	n := w.walked(w.op.Path)
	ents, next, err := tree.List(w.now, n.Ino, w.op.N, w.op.M)
	need(err)
	a := api.Ans{N: next}
	for _, e := range ents {
		a.Names = append(a.Names, e.Name)
	}
	return a
}

func (w *work) stat() api.Ans {
	n := w.walked(w.op.Path)
	return api.Ans{Ino: n.Ino, Kind: n.Kind, N: n.Links, M: len(n.Data) + len(n.Ents)}
}
