package fed

import (
	"slices"

	"catacomb/acts"
	"catacomb/api"
	"catacomb/name"
	"catacomb/shard"
	"catacomb/tree"
)

// work is a tree over pieces while an operation is done on it.
type work struct {
	acts.Work
	pieces []api.Piece
}

// onTree is what is done on the tree alone.
func onTree(do func(*acts.Work) api.Ans) func(*work) api.Ans {
	return func(w *work) api.Ans { return do(&w.Work) }
}

func deeds() map[int]func(*work) api.Ans {
	return map[int]func(*work) api.Ans{
		api.Look:   onTree((*acts.Work).Look),
		api.Make:   onTree((*acts.Work).Make),
		api.Link:   onTree((*acts.Work).Link),
		api.Unlink: (*work).unlink,
		api.Rename: (*work).rename,
		api.List:   onTree((*acts.Work).List),
		api.Stat:   onTree((*acts.Work).Stat),
	}
}

// Do does an operation.
func Do(f api.Fed, o api.Op) (api.Fed, api.Ans) {
	do, ok := deeds()[o.Kind]
	if !ok || o.Client < 0 || o.Client >= api.MaxClient {
		return f, api.Ans{Err: api.ErrArg}
	}
	return done(f, o, do)
}

// done is a tree over pieces on which an operation was done, or, if an error left it, as it was.
func done(f api.Fed, o api.Op, do func(*work) api.Ans) (after api.Fed, ans api.Ans) {
	defer func() {
		if left := recover(); left != nil {
			after, ans = f, api.Ans{Err: acts.Told(left)}
		}
	}()
	w := &work{acts.Work{Now: Whole(f), Op: o}, f.Pieces}
	ans = do(w)
	w.tidy()
	if !mayLie(w.pieces, w.Now) {
		acts.Need(api.ErrCross)
	}
	return Spread(w.pieces, w.Now), ans
}

// tidy frees files that nothing names any more.
func (w *work) tidy() {
	for _, n := range w.Now.Nodes {
		if n.Kind == api.File && n.Links == 0 {
			w.Now, _ = tree.Free(w.Now, n.Ino)
		}
	}
}

// free leaves the operation, if it would have a piece go, or be elsewhere.
func (w *work) free(paths ...string) {
	for _, path := range paths {
		if _, _, err := name.Last(path); err != api.OK {
			return
		}
	}
	if _, err := tree.Walk(w.Now, paths[0]); err != api.OK {
		return
	}
	for _, path := range paths {
		if slices.ContainsFunc(shard.Below(w.pieces, path), func(i int) bool { return w.pieces[i].Path != root }) {
			acts.Need(api.ErrPiece)
		}
	}
}

func (w *work) unlink() api.Ans {
	w.free(w.Op.Path)
	return w.Unlink()
}

func (w *work) rename() api.Ans {
	w.free(w.Op.Path, w.Op.To)
	return w.Rename()
}
