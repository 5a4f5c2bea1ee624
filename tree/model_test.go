package tree

import (
	"bytes"
	"fmt"
	"maps"
	"math/rand"
	"slices"
	"strings"

	"catacomb/api"
	"catacomb/name"
)

// model is a tree as maps: by number what stands there, by directory and name what is named.
type model struct {
	kind   map[int]int
	data   map[int][]byte
	ents   map[int]map[string]api.Ent
	next   int
	cookie int
}

func newModel() *model {
	return &model{map[int]int{1: api.Dir}, map[int][]byte{}, map[int]map[string]api.Ent{1: {}}, 2, 1}
}

func (m *model) links(ino int) int {
	n := 0
	for _, l := range m.ents {
		for _, e := range l {
			if e.Ino == ino {
				n++
			}
		}
	}
	return n
}

func (m *model) up(ino int) int {
	for dir, l := range m.ents {
		for _, e := range l {
			if e.Ino == ino {
				return dir
			}
		}
	}
	return 1
}

func (m *model) depth(dir int) int {
	d := 0
	for dir != 1 {
		dir, d = m.up(dir), d+1
	}
	return d
}

// below are a node and all that stands below it.
func (m *model) below(ino int) []int {
	l := []int{ino}
	for _, e := range m.ents[ino] {
		l = append(l, m.below(e.Ino)...)
	}
	return l
}

// tree is the model as a tree.
func (m *model) tree() api.Tree {
	t := api.Tree{Next: m.next, Cookie: m.cookie}
	for _, ino := range slices.Sorted(maps.Keys(m.kind)) {
		n := api.Node{Ino: ino, Kind: m.kind[ino], Links: m.links(ino), Data: m.data[ino]}
		if n.Kind == api.Dir {
			n.Up = m.up(ino)
			for _, s := range slices.Sorted(maps.Keys(m.ents[ino])) {
				n.Ents = append(n.Ents, m.ents[ino][s])
			}
		}
		t.Nodes = append(t.Nodes, n)
	}
	return t
}

func (m *model) dir(ino int) api.Errno {
	return map[int]api.Errno{0: api.ErrNone, api.File: api.ErrNot, api.Dir: api.OK}[m.kind[ino]]
}

func (m *model) file(ino int) api.Errno {
	return map[int]api.Errno{0: api.ErrNone, api.File: api.OK, api.Dir: api.ErrDir}[m.kind[ino]]
}

// first is the first error of some.
func first(l ...api.Errno) api.Errno {
	for _, e := range l {
		if e != api.OK {
			return e
		}
	}
	return api.OK
}

func when(b bool, e api.Errno) api.Errno {
	if b {
		return e
	}
	return api.OK
}

func (m *model) enter(dir int, as string, more bool) api.Errno {
	_, there := m.ents[dir][as]
	return first(m.dir(dir), when(!name.Right(as), api.ErrName), when(there, api.ErrThere), when(len(m.ents[dir]) >= 64 || m.kind[dir] == api.Dir && m.depth(dir) >= 12 || more || m.cookie == 1<<40, api.ErrMany))
}

func (m *model) add(dir int, as string, kind int) (int, api.Errno) {
	if e := first(when(kind != 1 && kind != 2, api.ErrArg), m.enter(dir, as, len(m.kind) >= 200 || m.next == 1<<40)); e != api.OK {
		return 0, e
	}
	m.kind[m.next] = kind
	if kind == api.Dir {
		m.ents[m.next] = map[string]api.Ent{}
	}
	m.ents[dir][as] = api.Ent{Name: as, Ino: m.next, Cookie: m.cookie}
	m.next++
	m.cookie++
	return m.next - 1, api.OK
}

func (m *model) ln(ino int, dir int, as string) api.Errno {
	if e := first(when(m.kind[ino] == 1 && m.links(ino) == 0, api.ErrNone), m.file(ino), m.enter(dir, as, false)); e != api.OK {
		return e
	}
	m.ents[dir][as] = api.Ent{Name: as, Ino: ino, Cookie: m.cookie}
	m.cookie++
	return api.OK
}

func (m *model) look(dir int, as string) (int, api.Errno) {
	e, ok := m.ents[dir][as]
	err := first(m.dir(dir), when(!name.Right(as), api.ErrName), when(!ok, api.ErrNone))
	return e.Ino, err
}

// out takes an entry away, with its node, if that is a directory.
func (m *model) out(dir int, as string) {
	ino := m.ents[dir][as].Ino
	delete(m.ents[dir], as)
	if m.kind[ino] == api.Dir {
		delete(m.kind, ino)
		delete(m.ents, ino)
	}
}

func (m *model) un(dir int, as string) (int, api.Errno) {
	ino, err := m.look(dir, as)
	if err = first(err, when(len(m.ents[ino]) > 0, api.ErrLeft)); err != api.OK {
		return 0, err
	}
	m.out(dir, as)
	return ino, api.OK
}

func (m *model) mv(dir int, as string, to int, into string) (int, api.Errno) {
	x, err := m.look(dir, as)
	if err = first(err, m.dir(to), when(!name.Right(into), api.ErrName)); err != api.OK {
		return 0, err
	}
	old, there := m.ents[to][into]
	y := old.Ino
	if there && x == y {
		return 0, api.OK
	}
	isDir := m.kind[x] == api.Dir
	if isDir && slices.Contains(m.below(x), to) {
		return 0, api.ErrLoop
	}
	if there {
		if err = first(when(isDir && m.kind[y] != api.Dir, api.ErrNot), when(!isDir && m.kind[y] == api.Dir, api.ErrDir), when(len(m.ents[y]) > 0, api.ErrLeft)); err != api.OK {
			return 0, err
		}
	}
	many := !there && to != dir && len(m.ents[to]) >= 64 || m.depth(to) >= 12 || m.cookie == 1<<40
	if isDir {
		for _, b := range m.below(x) {
			if d := m.depth(b) - m.depth(x) + m.depth(to) + 1; m.kind[b] == api.Dir && (d > 12 || d == 12 && len(m.ents[b]) > 0) {
				many = true
			}
		}
	}
	if many {
		return 0, api.ErrMany
	}
	delete(m.ents[dir], as)
	if there {
		m.out(to, into)
	}
	m.ents[to][into] = api.Ent{Name: into, Ino: x, Cookie: m.cookie}
	m.cookie++
	return y, api.OK
}

// paths are the numbers of all paths.
func (m *model) paths() map[string]int {
	out := map[string]int{"/": 1}
	var go1 func(dir int, at string)
	go1 = func(dir int, at string) {
		for s, e := range m.ents[dir] {
			out[at+"/"+s] = e.Ino
			go1(e.Ino, at+"/"+s)
		}
	}
	go1(1, "")
	return out
}

func someName(r *rand.Rand) string {
	if r.Intn(40) == 0 {
		return []string{"", "..", "a/b", strings.Repeat("x", 33)}[r.Intn(4)]
	}
	return []string{"a", "b", "c", "ab", "\xff"}[r.Intn(5)]
}

// ino is a number of a node, or of none.
func (m *model) ino(r *rand.Rand) int {
	if r.Intn(20) == 0 {
		return []int{0, -1, m.next, 9999}[r.Intn(4)]
	}
	l := slices.Sorted(maps.Keys(m.kind))
	return l[r.Intn(len(l))]
}

// step does one thing to a tree and its model, and tells what was unlike.
func (m *model) step(r *rand.Rand, t api.Tree) (api.Tree, string) {
	dir, to, as, into := m.ino(r), m.ino(r), someName(r), someName(r)
	was, kind := m.tree(), r.Intn(9)
	var u api.Tree
	var got, want int
	var err, werr api.Errno
	switch kind {
	case 0, 1, 2:
		k := 1 + r.Intn(2)
		if r.Intn(20) == 0 {
			k = r.Intn(5) - 1
		}
		u, got, err = Add(t, dir, as, k)
		want, werr = m.add(dir, as, k)
	case 3:
		u, err = Ln(t, to, dir, as)
		werr = m.ln(to, dir, as)
	case 4:
		u, got, err = Un(t, dir, as)
		want, werr = m.un(dir, as)
	case 5, 6:
		u, got, err = Mv(t, dir, as, to, into)
		want, werr = m.mv(dir, as, to, into)
	case 7:
		b := bytes.Repeat([]byte{7}, []int{0, 1, 4096, 4097}[r.Intn(4)])
		u, err = Put(t, dir, b)
		if werr = first(m.file(dir), when(len(b) > 4096, api.ErrBig)); werr == api.OK {
			m.data[dir] = b
		}
	default:
		u, err = Free(t, dir)
		if werr = first(m.file(dir), when(m.links(dir) > 0, api.ErrThere)); werr == api.OK {
			delete(m.kind, dir)
			delete(m.data, dir)
		}
	}
	switch {
	case err != werr || got != want:
		return u, fmt.Sprintf("kind %d of %d %q %d %q: %d, %d, not %d, %d", kind, dir, as, to, into, got, err, want, werr)
	case !Same(t, was):
		return u, "a tree that was handed in is changed"
	case !Same(u, m.tree()):
		return u, fmt.Sprintf("kind %d of %d %q %d %q: %v, not %v", kind, dir, as, to, into, u, m.tree())
	case !Right(u):
		return u, "not right"
	}
	return u, ""
}
