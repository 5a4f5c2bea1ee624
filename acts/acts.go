// Package acts does operations on the names of one tree, for those layers that have one: fs, and fed. An error leaves an operation by panic, and is told where the operation began.
package acts

import (
	"errors"

	"catacomb/api"
	"catacomb/name"
	"catacomb/tree"
)

// Work is a tree while an operation is done on it.
type Work struct {
	Now api.Tree
	Op  api.Op
}

// Need leaves the operation with an error, unless that is OK.
func Need(err api.Errno) {
	if err != api.OK {
		panic(err)
	}
}

// Told is the error by which an operation was left, of what was recovered.
func Told(left any) api.Errno {
	var errno api.Errno
	if err, ok := left.(error); ok && errors.As(err, &errno) {
		return errno
	}
	return api.ErrArg
}

// Node is a node of the tree.
func (w *Work) Node(ino int) api.Node {
	n, ok := tree.Get(w.Now, ino)
	if !ok {
		Need(api.ErrNone)
	}
	return n
}

// Walked is what a path is.
func (w *Work) Walked(path string) api.Node {
	ino, err := tree.Walk(w.Now, path)
	Need(err)
	return w.Node(ino)
}

// within is a path's directory and name.
func (w *Work) within(path string) (int, string) {
	last, to, err := name.Last(path)
	Need(err)
	return w.Walked(to).Ino, last
}

// Look tells a path's node.
func (w *Work) Look() api.Ans {
	n := w.Walked(w.Op.Path)
	return api.Ans{Ino: n.Ino, Kind: n.Kind}
}

// Make makes a node.
func (w *Work) Make() api.Ans {
	dir, as := w.within(w.Op.Path)
	t, ino, err := tree.Add(w.Now, dir, as, w.Op.N)
	Need(err)
	w.Now = t
	return api.Ans{Ino: ino, Kind: w.Op.N}
}

// Link gives a file one more name.
func (w *Work) Link() api.Ans {
	n := w.Walked(w.Op.Path)
	dir, as := w.within(w.Op.To)
	t, err := tree.Ln(w.Now, n.Ino, dir, as)
	Need(err)
	w.Now = t
	return api.Ans{Ino: n.Ino}
}

// Unlink takes a name away.
func (w *Work) Unlink() api.Ans {
	dir, as := w.within(w.Op.Path)
	t, ino, err := tree.Un(w.Now, dir, as)
	Need(err)
	w.Now = t
	return api.Ans{Ino: ino}
}

// Rename moves a name.
func (w *Work) Rename() api.Ans {
	dir, as := w.within(w.Op.Path)
	to, into := w.within(w.Op.To)
	ino, _ := tree.Look(w.Now, dir, as) // what is wrong with it the move tells, in its order
	t, _, err := tree.Mv(w.Now, dir, as, to, into)
	Need(err)
	w.Now = t
	return api.Ans{Ino: ino}
}

// List tells names of a directory.
func (w *Work) List() api.Ans {
	n := w.Walked(w.Op.Path)
	ents, next, err := tree.List(w.Now, n.Ino, w.Op.N, w.Op.M)
	Need(err)
	return api.Ans{Names: Names(ents), N: next}
}

// Names are those of entries.
func Names(ents []api.Ent) []string {
	var l []string
	for _, e := range ents {
		l = append(l, e.Name)
	}
	return l
}

// Stat tells of a path's node how many links, and how many bytes, or entries, it has.
func (w *Work) Stat() api.Ans { return Stats(w.Walked(w.Op.Path)) }

// Stats are what Stat tells of a node.
func Stats(n api.Node) api.Ans {
	return api.Ans{Ino: n.Ino, Kind: n.Kind, N: n.Links, M: len(n.Data) + len(n.Ents)}
}
