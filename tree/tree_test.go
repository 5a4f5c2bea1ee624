package tree

import (
	"bytes"
	"fmt"
	"math/rand"
	"slices"
	"strings"
	"testing"

	"catacomb/api"
	"catacomb/name"
)

// grown is a tree of directories and files: kinds by path, that stand in order.
func grown(t *testing.T, paths ...string) api.Tree {
	g := New()
	for _, p := range paths {
		kind := api.Dir
		if strings.HasSuffix(p, "*") {
			kind, p = api.File, strings.TrimSuffix(p, "*")
		}
		last, to, _ := name.Last(p)
		dir, err := Walk(g, to)
		if err == api.OK {
			g, _, err = Add(g, dir, last, kind)
		}
		if err != api.OK {
			t.Fatal(p, err)
		}
	}
	return g
}

func at(t *testing.T, g api.Tree, path string) int {
	ino, err := Walk(g, path)
	if err != api.OK {
		t.Fatal(path, err)
	}
	return ino
}

// deep are n directories, each in the other one.
func deep(n int, ahead string) []string {
	var l []string
	for range n {
		ahead += "/d"
		l = append(l, ahead)
	}
	return l
}

// P7.1: the functions, by words, with numbers and names of all kinds.
func TestP71Model(t *testing.T) {
	r := rand.New(rand.NewSource(1))
	for range 150 {
		g, m := New(), newModel()
		for range 200 {
			var wrong string
			if g, wrong = m.step(r, g); wrong != "" {
				t.Fatal(wrong)
			}
		}
		for p, ino := range m.paths() {
			if got, err := Walk(g, p[strings.LastIndex(p, "//")+1:]); got != ino || err != api.OK {
				t.Fatal(p, ino, got, err)
			}
		}
	}
}

// P7.1: Get, Look and Walk, and their errors, in order.
func TestP71Look(t *testing.T) {
	g := grown(t, "/a", "/a/f*")
	if n, ok := Get(g, 3); !ok || n.Ino != 3 || n.Kind != api.File || n.Links != 1 || n.Up != 0 {
		t.Error(n, ok)
	}
	for _, ino := range []int{0, 4, -1} {
		if n, ok := Get(g, ino); ok || !sameNode(n, api.Node{}) {
			t.Error(ino, n)
		}
	}
	for _, x := range []struct {
		dir int
		as  string
		ino int
		err api.Errno
	}{{1, "a", 2, 0}, {2, "f", 3, 0}, {9, "/", 0, api.ErrNone}, {3, "/", 0, api.ErrNot}, {1, "/", 0, api.ErrName}, {1, "b", 0, api.ErrNone}} {
		if ino, err := Look(g, x.dir, x.as); ino != x.ino || err != x.err {
			t.Error(x, ino, err)
		}
	}
	for p, x := range map[string][2]int{"/": {1, 0}, "/a/f": {3, 0}, "/a/f/g": {0, int(api.ErrNot)}, "/b/g": {0, int(api.ErrNone)}, "a": {0, int(api.ErrName)}, "/a/": {0, int(api.ErrName)}} {
		if ino, err := Walk(g, p); ino != x[0] || int(err) != x[1] {
			t.Error(p, ino, err)
		}
	}
}

// P7.1: which error comes first, where several apply.
func TestP71Errors(t *testing.T) {
	g := grown(t, append(deep(12, ""), "/f*", "/g*", "/e", "/e/x*", "/q")...)
	g, _, _ = Un(g, 1, "g")
	f, gone, e, q, end := at(t, g, "/f"), 15, at(t, g, "/e"), at(t, g, "/q"), at(t, g, strings.Repeat("/d", 12))
	for i, x := range []struct {
		err  api.Errno
		want api.Errno
	}{
		{addErr(g, 99, "/", 3), api.ErrArg}, {addErr(g, 99, "/", 1), api.ErrNone}, {addErr(g, f, "/", 1), api.ErrNot}, {addErr(g, end, "/", 1), api.ErrName}, {addErr(g, 1, "f", 1), api.ErrThere}, {addErr(g, end, "x", 1), api.ErrMany},
		{lnErr(g, 99, 99, "/"), api.ErrNone}, {lnErr(g, gone, 99, "/"), api.ErrNone}, {lnErr(g, e, 99, "/"), api.ErrDir}, {lnErr(g, f, 99, "/"), api.ErrNone}, {lnErr(g, f, f, "/"), api.ErrNot}, {lnErr(g, f, 1, "/"), api.ErrName}, {lnErr(g, f, 1, "f"), api.ErrThere}, {lnErr(g, f, end, "f"), api.ErrMany},
		{unErr(g, 99, "f"), api.ErrNone}, {unErr(g, f, "f"), api.ErrNot}, {unErr(g, 1, "/"), api.ErrName}, {unErr(g, 1, "z"), api.ErrNone}, {unErr(g, 1, "e"), api.ErrLeft},
		{mvErr(g, 99, "f", 98, "/"), api.ErrNone}, {mvErr(g, f, "f", 98, "/"), api.ErrNot}, {mvErr(g, 1, "/", f, "/"), api.ErrName}, {mvErr(g, 1, "f", 99, "/"), api.ErrNone}, {mvErr(g, 1, "f", f, "/"), api.ErrNot}, {mvErr(g, 1, "f", 1, "/"), api.ErrName},
		{mvErr(g, 1, "e", e, "x"), api.ErrLoop}, {mvErr(g, 1, "d", end, "x"), api.ErrLoop}, {mvErr(g, 1, "e", 1, "f"), api.ErrNot}, {mvErr(g, 1, "f", 1, "e"), api.ErrDir}, {mvErr(g, 1, "q", 1, "e"), api.ErrLeft}, {mvErr(g, 1, "e", end, "x"), api.ErrMany}, {mvErr(g, 1, "f", end, "x"), api.ErrMany},
		{mvErr(g, 1, "f", 1, "f"), api.OK}, {mvErr(g, 1, "e", 1, "q"), api.OK}, {mvErr(g, 1, "q", end-1, "d"), api.OK}, {mvErr(g, 1, "e", end-1, "d"), api.ErrMany}, {mvErr(g, 1, "f", end-1, "d"), api.ErrDir}, {mvErr(g, 1, "f", end-1, "y"), api.OK}, {mvErr(g, 1, "q", end-2, "y"), api.OK}, {mvErr(g, 1, "d", q, "d"), api.ErrMany},
	} {
		if x.err != x.want {
			t.Errorf("%d: %d, not %d", i, x.err, x.want)
		}
	}
}

func addErr(g api.Tree, dir int, as string, kind int) api.Errno {
	_, _, err := Add(g, dir, as, kind)
	return err
}

func lnErr(g api.Tree, ino int, dir int, as string) api.Errno {
	_, err := Ln(g, ino, dir, as)
	return err
}

func unErr(g api.Tree, dir int, as string) api.Errno { _, _, err := Un(g, dir, as); return err }

func mvErr(g api.Tree, dir int, as string, to int, into string) api.Errno {
	_, _, err := Mv(g, dir, as, to, into)
	return err
}

// P7.1: the limits of entries, nodes, numbers and cookies.
func TestP71Limits(t *testing.T) {
	g := grown(t, "/a", "/b", "/c")
	for _, dir := range []int{2, 3, 4} {
		for i := range 64 {
			g, _, _ = Add(g, dir, fmt.Sprint("f", i), api.File)
		}
	}
	if len(g.Nodes) != 196 || !Right(g) {
		t.Fatal(len(g.Nodes))
	}
	if u, ino, err := Add(g, 2, "x", 1); !Same(u, g) || ino != 0 || err != api.ErrMany {
		t.Error("beside an error", ino, err)
	}
	if u, y, err := Mv(g, 3, "f0", 2, "x"); !Same(u, g) || y != 0 || err != api.ErrMany {
		t.Error("beside an error", y, err)
	}
	if addErr(g, 2, "x", 1) != api.ErrMany || lnErr(g, 5, 2, "x") != api.ErrMany || lnErr(g, 5, 1, "x") != api.OK {
		t.Error("entries of a directory")
	}
	if mvErr(g, 3, "f0", 2, "x") != api.ErrMany || mvErr(g, 2, "f0", 2, "x") != api.OK || mvErr(g, 3, "f0", 2, "f0") != api.OK {
		t.Error("entries of a directory that one comes to")
	}
	for i := range 4 {
		g, _, _ = Add(g, 1, fmt.Sprint("g", i), api.Dir)
	}
	if u, ino, err := Add(g, 1, "x", 1); !Same(u, g) || ino != 0 || err != api.ErrMany {
		t.Error("beside an error", ino, err)
	}
	if len(g.Nodes) != 200 || addErr(g, 1, "x", 1) != api.ErrMany || lnErr(g, 5, 1, "x") != api.OK || !Right(g) {
		t.Error("nodes")
	}
	h := grown(t, "/f*", "/d", "/d/e*")
	h.Next = 1 << 40
	if addErr(h, 1, "x", 1) != api.ErrMany || lnErr(h, 2, 1, "x") != api.OK || mvErr(h, 1, "f", 1, "x") != api.OK {
		t.Error("the next number")
	}
	h = grown(t, "/f*")
	h.Cookie = 1 << 40
	if addErr(h, 1, "x", 1) != api.ErrMany || lnErr(h, 2, 1, "x") != api.ErrMany || mvErr(h, 1, "f", 1, "x") != api.ErrMany || mvErr(h, 1, "f", 1, "f") != api.OK || unErr(h, 1, "f") != api.OK {
		t.Error("the next cookie")
	}
	h.Cookie, h.Next = 1<<40-1, 1<<40-1
	if u, ino, err := Add(h, 1, "x", 1); err != api.OK || ino != 1<<40-1 || !Right(u) {
		t.Error("the last number", ino, err)
	}
	if _, err := Put(h, 2, make([]byte, 4096)); err != api.OK {
		t.Error(err)
	}
	for ino, want := range map[int]api.Errno{2: api.ErrBig, 1: api.ErrDir, 9: api.ErrNone} {
		if u, err := Put(h, ino, make([]byte, 4097)); err != want || !Same(u, h) {
			t.Error(ino, err)
		}
	}
	for ino, want := range map[int]api.Errno{2: api.ErrThere, 1: api.ErrDir, 9: api.ErrNone} {
		if u, err := Free(h, ino); err != want || !Same(u, h) {
			t.Error(ino, err)
		}
	}
}

// P7.1: hard links, and what is moved over them.
func TestP71Links(t *testing.T) {
	g := grown(t, "/f*", "/g*")
	g, _ = Ln(g, 2, 1, "h")
	if n, _ := Get(g, 2); n.Links != 2 || at(t, g, "/h") != 2 {
		t.Error(n)
	}
	u, y, err := Mv(g, 1, "f", 1, "h")
	if !Same(u, g) || y != 0 || err != api.OK {
		t.Error("two names of one file", y, err)
	}
	u, y, err = Mv(g, 1, "f", 1, "g")
	if n, _ := Get(u, 3); y != 3 || err != api.OK || n.Links != 0 || at(t, u, "/g") != 2 || !Right(u) {
		t.Error("a file in another one's place", y, err, u)
	}
	if u, err = Free(u, 3); err != api.OK || len(u.Nodes) != 2 {
		t.Error(err)
	}
	h := grown(t, "/a", "/b")
	if u, y, err = Mv(h, 1, "a", 1, "b"); y != 3 || err != api.OK || len(u.Nodes) != 2 || u.Cookie != 4 || u.Nodes[0].Ents[0] != (api.Ent{Name: "b", Ino: 2, Cookie: 3}) {
		t.Error(y, err, u)
	}
}

// wrongs are trees that are not right, each by one thing.
func wrongs(t *testing.T) map[string]api.Tree {
	out := map[string]api.Tree{
		"nothing":           {},
		"a file alone":      {Nodes: []api.Node{{Ino: 1, Kind: api.File}}, Next: 2, Cookie: 1},
		"another root":      {Nodes: []api.Node{{Ino: 2, Kind: api.Dir, Up: 2}}, Next: 3, Cookie: 1},
		"no cookie":         {Nodes: New().Nodes, Next: 2},
		"two of number 1":   {Nodes: []api.Node{New().Nodes[0], {Ino: 1, Kind: api.File}}, Next: 2, Cookie: 1},
		"a number below it": {Nodes: []api.Node{New().Nodes[0], {Ino: 0, Kind: api.File}}, Next: 2, Cookie: 1},
	}
	wrong := func(as string, with func(g *api.Tree)) {
		g := grown(t, "/a", "/a/f*", "/b", "/b/c")
		g, _ = Ln(g, 3, 1, "l")
		g.Nodes = slices.Clone(g.Nodes)
		for i := range g.Nodes {
			g.Nodes[i].Ents = slices.Clone(g.Nodes[i].Ents)
		}
		if !Right(g) {
			t.Fatal("not right ahead")
		}
		with(&g)
		out[as] = g
	}
	wrong("order", func(g *api.Tree) { g.Nodes[1], g.Nodes[2] = g.Nodes[2], g.Nodes[1] })
	wrong("twice", func(g *api.Tree) { g.Nodes = slices.Insert(g.Nodes, 3, g.Nodes[2]) })
	wrong("first", func(g *api.Tree) { g.Nodes[0].Ino = 0 })
	wrong("root a file", func(g *api.Tree) { g.Nodes[0].Kind = api.File })
	wrong("next", func(g *api.Tree) { g.Next = 5 })
	wrong("next above", func(g *api.Tree) { g.Next = 1<<40 + 1 })
	wrong("cookie", func(g *api.Tree) { g.Cookie = 5 })
	wrong("cookie above", func(g *api.Tree) { g.Cookie = 1<<40 + 1 })
	wrong("data of a directory", func(g *api.Tree) { g.Nodes[1].Data = []byte{1} })
	wrong("names' order", func(g *api.Tree) { e := g.Nodes[0].Ents; e[0], e[1] = e[1], e[0] })
	wrong("one name twice", func(g *api.Tree) { g.Nodes[0].Ents[1].Name = "a" })
	wrong("name", func(g *api.Tree) { g.Nodes[1].Ents[0].Name = "/" })
	wrong("cookie 0", func(g *api.Tree) { g.Nodes[1].Ents[0].Cookie = 0 })
	wrong("cookies alike", func(g *api.Tree) { g.Nodes[0].Ents[0].Cookie = g.Nodes[0].Ents[1].Cookie })
	wrong("entry of nothing", func(g *api.Tree) { g.Nodes[1].Ents[0].Ino, g.Nodes[2].Links = 99, 1 })
	wrong("up", func(g *api.Tree) { g.Nodes[1].Up = 4 })
	wrong("links of a directory", func(g *api.Tree) { g.Nodes[1].Links = 0 })
	wrong("root's up", func(g *api.Tree) { g.Nodes[0].Up = 0 })
	wrong("root's links", func(g *api.Tree) { g.Nodes[0].Links = 1 })
	wrong("root named", func(g *api.Tree) { g.Nodes[1].Ents[0].Ino, g.Nodes[2].Links = 1, 1 })
	wrong("two names", func(g *api.Tree) { g.Nodes[1].Ents[0].Ino, g.Nodes[2].Links = 5, 1 })
	wrong("file's entries", func(g *api.Tree) { g.Nodes[2].Ents = []api.Ent{{Name: "x", Ino: 3, Cookie: 1}}; g.Nodes[2].Links = 3 })
	wrong("file's up", func(g *api.Tree) { g.Nodes[2].Up = 1 })
	wrong("file's bytes", func(g *api.Tree) { g.Nodes[2].Data = make([]byte, 4097) })
	wrong("file's links", func(g *api.Tree) { g.Nodes[2].Links = 1 })
	wrong("kind", func(g *api.Tree) { g.Nodes[2].Kind = 3 })
	wrong("no name", func(g *api.Tree) { g.Nodes[3].Ents = nil })
	wrong("a loop", func(g *api.Tree) {
		g.Nodes[0].Ents = slices.Delete(g.Nodes[0].Ents, 1, 2)
		g.Nodes[3].Up = 5
		g.Nodes[4].Ents = []api.Ent{{Name: "b", Ino: 4, Cookie: 2}}
	})
	return out
}

// P7.1: which trees are right.
func TestP71Right(t *testing.T) {
	for as, g := range wrongs(t) {
		if Right(g) {
			t.Errorf("%s is right", as)
		}
	}
	g := grown(t, deep(12, "")...)
	if !Right(g) {
		t.Error("depth 12")
	}
	for _, kind := range []int{api.File, api.Dir} {
		h := g
		h.Nodes = slices.Clone(g.Nodes)
		h.Nodes[12].Ents = []api.Ent{{Name: "x", Ino: 14, Cookie: 13}}
		n := api.Node{Ino: 14, Kind: kind, Links: 1}
		if kind == api.Dir {
			n.Up = 13
		}
		h.Nodes = append(h.Nodes, n)
		h.Next, h.Cookie = 15, 14
		if Right(h) {
			t.Error("below depth 12", kind)
		}
	}
	many := New()
	for i := range 201 {
		many.Nodes = append(many.Nodes, api.Node{Ino: 2 + i, Kind: api.File})
	}
	many.Next = 1000
	if Right(many) {
		t.Error("202 nodes")
	}
	if many.Nodes = many.Nodes[:200]; !Right(many) {
		t.Error("200 nodes")
	}
	ents := grown(t, "/a*")
	for i := range 64 {
		ents.Nodes[0].Ents = append(ents.Nodes[0].Ents, api.Ent{Name: fmt.Sprintf("b%02d", i), Ino: 2, Cookie: 2 + i})
	}
	ents.Cookie, ents.Nodes[1].Links = 99, 65
	if Right(ents) {
		t.Error("65 entries")
	}
	ents.Nodes[0].Ents, ents.Nodes[1].Links = ents.Nodes[0].Ents[:64], 64
	if !Right(ents) {
		t.Error("64 entries")
	}
}

// P7.1: Same holds all fields against each other; nil and empty are alike.
func TestP71Same(t *testing.T) {
	a := grown(t, "/a", "/f*")
	b := grown(t, "/a", "/f*")
	b.Nodes[2].Data, b.Nodes[1].Ents = []byte{}, []api.Ent{}
	if !Same(a, b) || !Same(api.Tree{}, api.Tree{Nodes: []api.Node{}}) {
		t.Error("unlike")
	}
	for i, with := range []func(g *api.Tree){
		func(g *api.Tree) { g.Next++ }, func(g *api.Tree) { g.Cookie++ }, func(g *api.Tree) { g.Nodes = g.Nodes[:2] }, func(g *api.Tree) { g.Nodes[1].Ino = 9 }, func(g *api.Tree) { g.Nodes[1].Kind = 1 },
		func(g *api.Tree) { g.Nodes[1].Links = 2 }, func(g *api.Tree) { g.Nodes[1].Data = []byte{0} }, func(g *api.Tree) { g.Nodes[1].Up = 2 },
		func(g *api.Tree) {
			g.Nodes[0].Ents = []api.Ent{{Name: "a", Ino: 2, Cookie: 1}, {Name: "f", Ino: 3, Cookie: 9}}
		}, func(g *api.Tree) { g.Nodes[0].Ents = g.Nodes[0].Ents[:1] },
	} {
		c := grown(t, "/a", "/f*")
		with(&c)
		if Same(a, c) || Same(c, a) {
			t.Error(i)
		}
	}
	for as, g := range wrongs(t) {
		if !Same(g, g) {
			t.Error(as)
		}
	}
}

// P7.1: listing: errors, order, where to go on.
func TestP71List(t *testing.T) {
	g := grown(t, "/c*", "/b*", "/a", "/d*")
	g, _, _ = Mv(g, 1, "c", 1, "e")
	for _, x := range []struct {
		dir, from, many int
		want            string
		next            int
		err             api.Errno
	}{
		{1, 0, 64, "bade", 0, 0}, {1, 0, 4, "bade", 0, 0}, {1, 0, 3, "bad", 5, 0}, {1, 0, 1, "b", 3, 0}, {1, 3, 1, "a", 4, 0}, {1, 5, 1, "e", 0, 0}, {1, 6, 9, "", 0, 0}, {4, 0, 9, "", 0, 0},
		{9, -1, 1, "", 0, api.ErrArg}, {9, 0, 0, "", 0, api.ErrArg}, {9, 0, 65, "", 0, api.ErrArg}, {9, 0, 64, "", 0, api.ErrNone}, {2, 0, 1, "", 0, api.ErrNot},
	} {
		l, next, err := List(g, x.dir, x.from, x.many)
		got := ""
		for _, e := range l {
			got += e.Name
		}
		if got != x.want || next != x.next || err != x.err {
			t.Error(x, got, next, err)
		}
	}
}

// P7.2: what becomes of a right tree is right, what is refused is as it was, at the edges of depth, too.
func TestP72Right(t *testing.T) {
	r := rand.New(rand.NewSource(2))
	for range 30 {
		g, m := New(), newModel()
		for i := range 40 {
			dir := 1 + r.Intn(i+1)
			g, _, _ = Add(g, dir, "d", api.Dir)
			m.add(dir, "d", api.Dir)
		}
		for range 150 {
			was := g
			u, wrong := m.step(r, g)
			if wrong != "" || !Right(u) || !Right(was) {
				t.Fatal(wrong)
			}
			g = u
		}
	}
	g := grown(t, "/a", "/a/b", "/f*")
	for i, err := range []api.Errno{addErr(g, 1, "a", 1), lnErr(g, 2, 1, "x"), unErr(g, 1, "a"), mvErr(g, 1, "a", 3, "x")} {
		if err == api.OK {
			t.Error(i)
		}
	}
	if u, _, _ := Add(g, 1, "a", 1); !Same(u, g) {
		t.Error("refused, and changed")
	}
	if u, y, _ := Mv(g, 1, "a", 3, "x"); !Same(u, g) || y != 0 {
		t.Error("refused, and changed")
	}
}

// P7.3: nothing is moved below itself; what is moved takes all below it along.
func TestP73Loops(t *testing.T) {
	g := grown(t, "/a", "/a/b", "/a/b/c", "/a/b/f*", "/z")
	for _, to := range []string{"/a", "/a/b", "/a/b/c"} {
		if mvErr(g, 1, "a", at(t, g, to), "x") != api.ErrLoop {
			t.Error(to)
		}
	}
	r := rand.New(rand.NewSource(3))
	for range 100 {
		g, m := New(), newModel()
		for range 120 {
			g, _ = m.step(r, g)
		}
		ps := m.paths()
		for p, ino := range ps {
			if p == "/" || m.kind[ino] != api.Dir {
				continue
			}
			last, to, _ := name.Last(p)
			u, _, err := Mv(g, at(t, g, to), last, 1, "moved")
			if err != api.OK {
				continue
			}
			for q, below := range ps {
				if name.Above(p, q) && at(t, u, "/moved"+strings.TrimPrefix(q, p)) != below {
					t.Fatal(p, q)
				}
			}
			for _, n := range u.Nodes {
				for d, up := 0, n; n.Kind == api.Dir && up.Ino != 1; d++ {
					if up, _ = Get(u, up.Up); d > 20 {
						t.Fatal("a loop")
					}
				}
			}
		}
	}
}

// P7.4: who lists piece by piece has each entry once that was there all the time.
func TestP74Listing(t *testing.T) {
	r := rand.New(rand.NewSource(4))
	for range 300 {
		g := New()
		for i := range 3 + r.Intn(20) {
			g, _, _ = Add(g, 1, fmt.Sprint("n", i), api.File)
		}
		steady := map[string]int{}
		for i := 0; i < len(g.Nodes); i += 2 {
			steady[fmt.Sprint("n", i)] = 0
		}
		from, pieces := 0, 0
		for more := true; more; {
			l, next, err := List(g, 1, from, 1+r.Intn(4))
			if err != api.OK || next != 0 && next <= from {
				t.Fatal(next, err)
			}
			for _, e := range l {
				if n, ok := steady[e.Name]; ok {
					steady[e.Name] = n + 1
				}
			}
			if pieces++; pieces < 60 { // others come and go between
				s := fmt.Sprint("n", 1+2*r.Intn(10))
				g, _, _ = Un(g, 1, s)
				g, _, _ = Add(g, 1, fmt.Sprint("m", r.Intn(9)), api.File)
				g, _, _ = Mv(g, 1, fmt.Sprint("m", r.Intn(9)), 1, s)
			}
			from, more = next, next != 0
		}
		for s, n := range steady {
			if ino, _ := Look(g, 1, s); ino != 0 && n != 1 {
				t.Fatal(s, n)
			}
		}
	}
}

// P7.1: bytes that were put are had, whatever becomes of the row that was handed in.
func TestP71Put(t *testing.T) {
	g := grown(t, "/f*")
	b := []byte{1, 2}
	u, _ := Put(g, 2, b)
	if n, _ := Get(u, 2); !bytes.Equal(n.Data, []byte{1, 2}) || !Right(u) {
		t.Error(n)
	}
	if n, _ := Get(g, 2); len(n.Data) != 0 {
		t.Error("the tree that was handed in is changed")
	}
}
