package acts

import (
	"errors"
	"testing"

	"catacomb/api"
	"catacomb/tree"
)

// left is what Need leaves by.
func left(err api.Errno) (out any) {
	defer func() { out = recover() }()
	Need(err)
	return nil
}

// What leaves an operation is told as its error; what is none is told as one of arguments.
func TestLeft(t *testing.T) {
	if left(api.OK) != nil || Told(left(api.ErrNot)) != api.ErrNot || Told(errors.Join(errors.New("x"), api.ErrBig)) != api.ErrBig || Told(errors.New("x")) != api.ErrArg || Told("x") != api.ErrArg || Told(nil) != api.ErrArg {
		t.Error("told otherwise")
	}
}

// An operation works on its own tree, and leaves the one that was handed in.
func TestWork(t *testing.T) {
	was := tree.New()
	w := &Work{Now: was, Op: api.Op{Path: "/a", N: api.Dir}}
	if a := w.Make(); a.Ino != 2 || a.Kind != api.Dir || len(was.Nodes) != 1 || len(w.Now.Nodes) != 2 {
		t.Error(a)
	}
	w.Op = api.Op{Path: "/a", To: "/b"}
	if a := w.Rename(); a.Ino != 2 || w.Walked("/b").Ino != 2 {
		t.Error(a)
	}
	w.Op = api.Op{Path: "/", M: 9}
	if a := w.List(); len(a.Names) != 1 || a.Names[0] != "b" || w.Stat().M != 1 || w.Look().Ino != 1 {
		t.Error(a)
	}
}
