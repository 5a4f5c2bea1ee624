package fs

import (
	"slices"

	"catacomb/api"
	"catacomb/hold"
	"catacomb/quota"
	"catacomb/shot"
	"catacomb/tree"
)

// Right: may a file system be so?
func Right(f api.FS) bool {
	return shot.Right(f.S) && hold.Right(f.S.Now, f.Holds) && quota.Right(f.S.Now, f.Quotas) && apart(f.S.Now, f.Quotas)
}

// Same: are two alike?
func Same(a api.FS, b api.FS) bool {
	return slices.Equal(a.Holds, b.Holds) && slices.Equal(a.Quotas, b.Quotas) && sameShots(a.S, b.S)
}

func sameShots(a api.Shots, b api.Shots) bool {
	return a.Tick == b.Tick && a.Next == b.Next && slices.Equal(a.Taken, b.Taken) && slices.Equal(a.Since, b.Since) &&
		tree.Same(a.Now, b.Now) && slices.EqualFunc(a.Pasts, b.Pasts, samePast)
}

func samePast(a api.Past, b api.Past) bool {
	return a.From == b.From && a.Till == b.Till && tree.Same(api.Tree{Nodes: []api.Node{a.Node}}, api.Tree{Nodes: []api.Node{b.Node}})
}
