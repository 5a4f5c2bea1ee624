package tree

import "catacomb/api"

// named is how many entries name a node, and the directory of the last one.
type named struct {
	times int
	in    int
}

// Right: may a tree be so?
func Right(t api.Tree) bool {
	if !rightRow(t) {
		return false
	}
	names := map[int]named{}
	for _, n := range t.Nodes {
		for _, e := range n.Ents {
			names[e.Ino] = named{names[e.Ino].times + 1, n.Ino}
		}
	}
	for _, n := range t.Nodes {
		switch {
		case n.Kind == api.Dir && rightDir(t, n, names[n.Ino]):
		case n.Kind == api.File && rightFile(n, names[n.Ino]):
		default:
			return false
		}
	}
	return true
}

// rightRow: do nodes stand in order, the root ahead, and the numbers that come next behind all?
func rightRow(t api.Tree) bool {
	many := len(t.Nodes)
	if many < 1 || many > api.MaxNodes || t.Nodes[0].Ino != root || t.Nodes[0].Kind != api.Dir {
		return false
	}
	for i := 1; i < many; i++ {
		if t.Nodes[i-1].Ino >= t.Nodes[i].Ino {
			return false
		}
	}
	return t.Next > t.Nodes[many-1].Ino && t.Next <= api.MaxTime && t.Cookie >= 1 && t.Cookie <= api.MaxTime
}

func rightFile(n api.Node, by named) bool {
	return len(n.Ents) == 0 && n.Up == 0 && len(n.Data) <= api.MaxFile && n.Links == by.times
}

func rightDir(t api.Tree, n api.Node, by named) bool {
	if len(n.Data) > 0 || !rightEnts(t, n) {
		return false
	}
	d := depth(t, n.Ino)
	if d > api.MaxDeep || d == api.MaxDeep && len(n.Ents) > 0 {
		return false
	}
	if n.Ino == root {
		return n.Up == root && n.Links == 0 && by.times == 0
	}
	return n.Links == 1 && by == named{1, n.Up}
}

func rightEnts(t api.Tree, n api.Node) bool {
	if len(n.Ents) > api.MaxEnts {
		return false
	}
	cookies := map[int]bool{}
	for i, e := range n.Ents {
		if !rightName(e.Name) || i > 0 && n.Ents[i-1].Name >= e.Name {
			return false
		}
		if e.Cookie < 1 || e.Cookie >= t.Cookie || cookies[e.Cookie] {
			return false
		}
		if _, ok := Get(t, e.Ino); !ok {
			return false
		}
		cookies[e.Cookie] = true
	}
	return true
}
