package fs

import (
	"bytes"
	"fmt"
	"math"
	"math/rand"
	"reflect"
	"slices"
	"strings"
	"testing"

	"catacomb/api"
	"catacomb/hold"
	"catacomb/shot"
	"catacomb/tree"
)

// alike: are answers alike, nil and empty too?
func alike(a api.Ans, b api.Ans) bool {
	return a.Err == b.Err && a.Ino == b.Ino && a.Kind == b.Kind && a.N == b.N && a.M == b.M && slices.Equal(a.Names, b.Names) && bytes.Equal(a.Data, b.Data)
}

// after does operations that must all be done.
func after(t *testing.T, f api.FS, l ...api.Op) api.FS {
	t.Helper()
	for _, o := range l {
		g, a := Do(f, o)
		if a.Err != api.OK {
			t.Fatalf("%v: %d", o, a.Err)
		}
		f = g
	}
	return f
}

func dir(path string) api.Op  { return api.Op{Kind: api.Make, Path: path, N: api.Dir} }
func file(path string) api.Op { return api.Op{Kind: api.Make, Path: path, N: api.File} }
func open(client int, handle int, path string) api.Op {
	return api.Op{Kind: api.Open, Client: client, Handle: handle, Path: path}
}
func write(client int, handle int, from int, data string) api.Op {
	return api.Op{Kind: api.Write, Client: client, Handle: handle, N: from, Data: []byte(data)}
}
func limit(path string, nodes int, bytes int) api.Op {
	return api.Op{Kind: api.Limit, Path: path, N: nodes, M: bytes}
}

// base has /d (2), /d/f (3, "abc", named /d/g too), /e (4), /h (5), and 3 open by client 1 as handle 2.
func base(t *testing.T) api.FS {
	return after(t, New(), dir("/d"), file("/d/f"), dir("/e"), file("/h"), api.Op{Kind: api.Link, Path: "/d/f", To: "/d/g"}, open(1, 2, "/d/f"), write(1, 2, 0, "abc"))
}

// P11.1: each kind's answer, and its errors, in order.
func TestP111Answers(t *testing.T) {
	f := after(t, base(t), api.Op{Kind: api.Take, Path: "/d"}, write(1, 2, 1, "X"))
	big := strings.Repeat("x", 4096)
	for i, x := range []struct {
		o api.Op
		a api.Ans
	}{
		{api.Op{Kind: 0, Path: "/"}, api.Ans{Err: api.ErrArg}}, {api.Op{Kind: 18, Path: "/"}, api.Ans{Err: api.ErrArg}}, {api.Op{Kind: -1}, api.Ans{Err: api.ErrArg}},
		{api.Op{Kind: api.Look, Path: "/", Client: 16}, api.Ans{Err: api.ErrArg}}, {api.Op{Kind: api.Look, Path: "/", Client: -1}, api.Ans{Err: api.ErrArg}}, {api.Op{Kind: api.Look, Path: "/", Client: 15}, api.Ans{Ino: 1, Kind: 2}},
		{api.Op{Kind: api.Look, Path: "/d/f"}, api.Ans{Ino: 3, Kind: 1}}, {api.Op{Kind: api.Look, Path: "d"}, api.Ans{Err: api.ErrName}}, {api.Op{Kind: api.Look, Path: "/x"}, api.Ans{Err: api.ErrNone}}, {api.Op{Kind: api.Look, Path: "/h/x"}, api.Ans{Err: api.ErrNot}},
		{file("/e/x"), api.Ans{Ino: 6, Kind: 1}}, {dir("/x"), api.Ans{Ino: 6, Kind: 2}}, {file("/"), api.Ans{Err: api.ErrName}}, {file("/x/y"), api.Ans{Err: api.ErrNone}}, {file("/h/y"), api.Ans{Err: api.ErrNot}}, {file("/d"), api.Ans{Err: api.ErrThere}}, {api.Op{Kind: api.Make, Path: "/d", N: 3}, api.Ans{Err: api.ErrArg}},
		{api.Op{Kind: api.Link, Path: "/d/f", To: "/x"}, api.Ans{Ino: 3}}, {api.Op{Kind: api.Link, Path: "/x", To: "/"}, api.Ans{Err: api.ErrNone}}, {api.Op{Kind: api.Link, Path: "/e", To: "/"}, api.Ans{Err: api.ErrName}}, {api.Op{Kind: api.Link, Path: "/e", To: "/x/y"}, api.Ans{Err: api.ErrNone}}, {api.Op{Kind: api.Link, Path: "/e", To: "/h"}, api.Ans{Err: api.ErrDir}}, {api.Op{Kind: api.Link, Path: "/d/f", To: "/h"}, api.Ans{Err: api.ErrThere}},
		{api.Op{Kind: api.Unlink, Path: "/h"}, api.Ans{Ino: 5}}, {api.Op{Kind: api.Unlink, Path: "/e"}, api.Ans{Ino: 4}}, {api.Op{Kind: api.Unlink, Path: "/d"}, api.Ans{Err: api.ErrLeft}}, {api.Op{Kind: api.Unlink, Path: "/"}, api.Ans{Err: api.ErrName}}, {api.Op{Kind: api.Unlink, Path: "/x"}, api.Ans{Err: api.ErrNone}}, {api.Op{Kind: api.Unlink, Path: "/h/x"}, api.Ans{Err: api.ErrNot}},
		{api.Op{Kind: api.Rename, Path: "/h", To: "/d/f"}, api.Ans{Ino: 5}}, {api.Op{Kind: api.Rename, Path: "/d", To: "/e"}, api.Ans{Ino: 2}}, {api.Op{Kind: api.Rename, Path: "/d/f", To: "/d/g"}, api.Ans{Ino: 3}}, {api.Op{Kind: api.Rename, Path: "/d", To: "/d/x"}, api.Ans{Err: api.ErrLoop}},
		{api.Op{Kind: api.Rename, Path: "/x", To: "/"}, api.Ans{Err: api.ErrName}}, {api.Op{Kind: api.Rename, Path: "/h/x", To: "/"}, api.Ans{Err: api.ErrName}}, {api.Op{Kind: api.Rename, Path: "/", To: "/x/y"}, api.Ans{Err: api.ErrName}}, {api.Op{Kind: api.Rename, Path: "/h/y", To: "/x/y"}, api.Ans{Err: api.ErrNone}}, {api.Op{Kind: api.Rename, Path: "/x", To: "/h/y"}, api.Ans{Err: api.ErrNone}}, {api.Op{Kind: api.Rename, Path: "/h", To: "/h/y"}, api.Ans{Err: api.ErrNot}},
		{api.Op{Kind: api.List, Path: "/", M: 64}, api.Ans{Names: []string{"d", "e", "h"}}}, {api.Op{Kind: api.List, Path: "/", M: 1}, api.Ans{Names: []string{"d"}, N: 2}}, {api.Op{Kind: api.List, Path: "/", N: 2, M: 9}, api.Ans{Names: []string{"e", "h"}}}, {api.Op{Kind: api.List, Path: "/h"}, api.Ans{Err: api.ErrArg}}, {api.Op{Kind: api.List, Path: "/h", M: 1}, api.Ans{Err: api.ErrNot}}, {api.Op{Kind: api.List, Path: "/x"}, api.Ans{Err: api.ErrNone}},
		{api.Op{Kind: api.Stat, Path: "/"}, api.Ans{Ino: 1, Kind: 2, M: 3}}, {api.Op{Kind: api.Stat, Path: "/d/g"}, api.Ans{Ino: 3, Kind: 1, N: 2, M: 3}}, {api.Op{Kind: api.Stat, Path: "/e"}, api.Ans{Ino: 4, Kind: 2, N: 1}}, {api.Op{Kind: api.Stat, Path: "x"}, api.Ans{Err: api.ErrName}},
		{open(1, 3, "/d/g"), api.Ans{Ino: 3}}, {open(1, 2, "/h"), api.Ans{Err: api.ErrThere}}, {open(1, 100, "/h"), api.Ans{Err: api.ErrArg}}, {open(1, 100, "/x"), api.Ans{Err: api.ErrNone}}, {open(1, 1, "/d"), api.Ans{Err: api.ErrDir}},
		{api.Op{Kind: api.Close, Client: 1, Handle: 2}, api.Ans{}}, {api.Op{Kind: api.Close, Client: 2, Handle: 1}, api.Ans{Err: api.ErrHold}},
		{api.Op{Kind: api.Read, Client: 1, Handle: 2, M: 4096}, api.Ans{Ino: 3, Data: []byte("aXc")}}, {api.Op{Kind: api.Read, Client: 1, Handle: 2, N: 1, M: 1}, api.Ans{Ino: 3, Data: []byte("X")}}, {api.Op{Kind: api.Read, Client: 1, Handle: 2, N: math.MaxInt, M: 4096}, api.Ans{Ino: 3}}, {api.Op{Kind: api.Read, Client: 1, Handle: 2, N: 2}, api.Ans{Ino: 3}},
		{api.Op{Kind: api.Read, Client: 1, Handle: 2, N: -1}, api.Ans{Err: api.ErrArg}}, {api.Op{Kind: api.Read, Client: 1, Handle: 2, M: -1}, api.Ans{Err: api.ErrArg}}, {api.Op{Kind: api.Read, Client: 1, Handle: 2, M: 4097}, api.Ans{Err: api.ErrArg}}, {api.Op{Kind: api.Read, Client: 1, Handle: 1, N: -1}, api.Ans{Err: api.ErrHold}},
		{write(1, 2, 5, "yz"), api.Ans{Ino: 3, M: 7}}, {write(1, 2, 0, ""), api.Ans{Ino: 3, M: 3}}, {write(1, 2, 4096, ""), api.Ans{Ino: 3, M: 3}}, {write(1, 2, 0, big), api.Ans{Ino: 3, M: 4096}}, {write(1, 2, 1, big), api.Ans{Err: api.ErrBig}}, {write(1, 2, 4096, "x"), api.Ans{Err: api.ErrBig}}, {write(1, 2, 4097, big), api.Ans{Err: api.ErrArg}}, {write(1, 2, -1, big), api.Ans{Err: api.ErrArg}}, {write(2, 2, -1, ""), api.Ans{Err: api.ErrHold}},
		{api.Op{Kind: api.Cut, Client: 1, Handle: 2, N: 2}, api.Ans{Ino: 3, M: 2}}, {api.Op{Kind: api.Cut, Client: 1, Handle: 2, N: 9}, api.Ans{Ino: 3, M: 3}}, {api.Op{Kind: api.Cut, Client: 1, Handle: 2}, api.Ans{Ino: 3}}, {api.Op{Kind: api.Cut, Client: 1, Handle: 2, N: -1}, api.Ans{Err: api.ErrArg}}, {api.Op{Kind: api.Cut, N: -1}, api.Ans{Err: api.ErrHold}},
		{limit("/d", 1, 3), api.Ans{Ino: 2}}, {limit("/d", 0, 3), api.Ans{Err: api.ErrQuota}}, {limit("/d", 1, 2), api.Ans{Err: api.ErrQuota}}, {limit("/d", -1, 0), api.Ans{Ino: 2}}, {limit("/h", 1, 1), api.Ans{Err: api.ErrNot}}, {limit("/x", 1, 1), api.Ans{Err: api.ErrNone}},
		{api.Op{Kind: api.Take, Path: "/e"}, api.Ans{N: 2}}, {api.Op{Kind: api.Take, Path: "/h"}, api.Ans{Err: api.ErrNot}}, {api.Op{Kind: api.Take, Path: "/x"}, api.Ans{Err: api.ErrNone}},
		{api.Op{Kind: api.Peek, N: 1, Path: "/"}, api.Ans{Ino: 2, Kind: 2, N: 1, M: 2, Names: []string{"f", "g"}}}, {api.Op{Kind: api.Peek, N: 1, Path: "/g"}, api.Ans{Ino: 3, Kind: 1, N: 2, M: 3, Data: []byte("abc")}}, {api.Op{Kind: api.Peek, N: 1, Path: "/d"}, api.Ans{Err: api.ErrNone}}, {api.Op{Kind: api.Peek, N: 1, Path: "/f/x"}, api.Ans{Err: api.ErrNot}}, {api.Op{Kind: api.Peek, N: 1, Path: "f"}, api.Ans{Err: api.ErrName}}, {api.Op{Kind: api.Peek, N: 2, Path: "f"}, api.Ans{Err: api.ErrShot}},
		{api.Op{Kind: api.Drop, N: 1}, api.Ans{}}, {api.Op{Kind: api.Drop, N: 2}, api.Ans{Err: api.ErrShot}},
		{api.Op{Kind: api.Crash, Client: 1}, api.Ans{}}, {api.Op{Kind: api.Crash, Client: 7}, api.Ans{}},
	} {
		g, a := Do(f, x.o)
		if !alike(a, x.a) {
			t.Errorf("%d: %v: %v, not %v", i, x.o, a, x.a)
		}
		if a.Err != api.OK && !Same(f, g) {
			t.Errorf("%d: refused, and changed", i)
		}
		if !Right(g) {
			t.Errorf("%d: not right", i)
		}
	}
}

// P11.1: what is done: trees, holds, and that the tree becomes another one at once.
func TestP111Done(t *testing.T) {
	f := base(t)
	g := after(t, f, api.Op{Kind: api.Unlink, Path: "/h"})
	want, _, _ := tree.Un(f.S.Now, 1, "h")
	want, _ = tree.Free(want, 5)
	if !tree.Same(g.S.Now, want) || !sameShots(g.S, shot.Put(f.S, want)) {
		t.Error("an unlinked file is not freed", g.S)
	}
	g = after(t, f, api.Op{Kind: api.Rename, Path: "/h", To: "/d/f"}, api.Op{Kind: api.Rename, Path: "/d/f", To: "/d/g"})
	if o := hold.Orphans(g.S.Now); !slices.Equal(o, []int{3}) || len(g.Holds) != 1 {
		t.Error("a held file", o)
	}
	g = after(t, g, api.Op{Kind: api.Crash, Client: 1})
	if o := hold.Orphans(g.S.Now); len(o) != 0 || len(g.Holds) != 0 {
		t.Error("no hold any more", o)
	}
	g = after(t, f, api.Op{Kind: api.Unlink, Path: "/d/f"}, api.Op{Kind: api.Unlink, Path: "/d/g"}, api.Op{Kind: api.Close, Client: 1, Handle: 2})
	if o := hold.Orphans(g.S.Now); len(o) != 0 || len(g.Holds) != 0 || len(g.S.Now.Nodes) != 4 || !Right(g) {
		t.Error("closed, and held by nobody", o)
	}
	if g = after(t, f, write(1, 2, 0, "abc")); !Same(f, g) {
		t.Error("the same bytes")
	}
	g = after(t, f, write(1, 2, 5, "z"))
	if n, _ := tree.Get(g.S.Now, 3); !bytes.Equal(n.Data, []byte("abc\x00\x00z")) || g.S.Tick != f.S.Tick+1 {
		t.Error(n.Data)
	}
	if g = after(t, f, open(0, 0, "/h")); !slices.Equal(g.Holds, []api.Hold{{Client: 0, Handle: 0, Ino: 5}, {Client: 1, Handle: 2, Ino: 3}}) || g.S.Tick != f.S.Tick {
		t.Error(g.Holds)
	}
	if g, a := Do(f, file("/x")); a.Err != api.OK || !reflect.DeepEqual(f, base(t)) || Same(f, g) {
		t.Error("what was handed in is changed")
	}
}

// P11.1: quotas: what goes with a directory, what crosses, what passes.
func TestP111Quotas(t *testing.T) {
	f := after(t, base(t), limit("/e", 0, 0))
	g := after(t, f, api.Op{Kind: api.Unlink, Path: "/e"})
	if len(g.Quotas) != 0 || !Right(g) {
		t.Error("the quota of a directory that is gone", g.Quotas)
	}
	for i, x := range []struct {
		f   api.FS
		o   api.Op
		err api.Errno
	}{
		{f, file("/e/x"), api.ErrQuota}, {f, api.Op{Kind: api.Rename, Path: "/h", To: "/e/h"}, api.ErrQuota}, {f, api.Op{Kind: api.Link, Path: "/h", To: "/e/h"}, api.ErrCross}, {f, api.Op{Kind: api.Rename, Path: "/d/f", To: "/e/f"}, api.ErrCross},
		{after(t, f, limit("/d", 1, 3)), write(1, 2, 3, "x"), api.ErrQuota}, {after(t, f, limit("/d", 1, 4)), write(1, 2, 3, "x"), api.OK}, {after(t, f, limit("/", 4, 3)), file("/x"), api.ErrQuota}, {after(t, f, limit("/", 5, 3)), file("/x"), api.OK},
		{after(t, f, limit("/d", 1, 3)), api.Op{Kind: api.Cut, Client: 1, Handle: 2}, api.OK},
		{after(t, f, api.Op{Kind: api.Link, Path: "/d/f", To: "/y"}), limit("/d", 9, 99), api.ErrCross}, {after(t, f, api.Op{Kind: api.Link, Path: "/d/f", To: "/y"}), limit("/d", 0, 99), api.ErrQuota},
		{after(t, base(t), api.Op{Kind: api.Link, Path: "/d/f", To: "/y"}, limit("/", 9, 99)), limit("/d", 9, 99), api.ErrCross}, {after(t, base(t), limit("/", 9, 99)), api.Op{Kind: api.Link, Path: "/h", To: "/e/h"}, api.OK},
		{after(t, f, limit("/d", 1, 3)), api.Op{Kind: api.Rename, Path: "/d", To: "/e/d"}, api.ErrQuota}, {f, api.Op{Kind: api.Rename, Path: "/d", To: "/e/d"}, api.ErrQuota}, {f, api.Op{Kind: api.Rename, Path: "/d", To: "/e"}, api.OK},
	} {
		g, a := Do(x.f, x.o)
		if a.Err != x.err || x.err != api.OK && !Same(g, x.f) || !Right(g) {
			t.Errorf("%d: %d", i, a.Err)
		}
	}
}

// P11.1: which file systems are right, and which are the same.
func TestP111Right(t *testing.T) {
	if !Right(New()) || !Same(New(), New()) || !tree.Same(New().S.Now, tree.New()) {
		t.Error("a new one")
	}
	f := after(t, base(t), limit("/d", 9, 99), api.Op{Kind: api.Take, Path: "/"}, write(1, 2, 0, "z"))
	for i, with := range []func(f *api.FS){
		func(f *api.FS) { f.S.Next = 0 }, func(f *api.FS) { f.Holds = []api.Hold{{Client: 1, Handle: 2, Ino: 1}} }, func(f *api.FS) { f.Quotas = []api.Quota{{Ino: 2}} }, func(f *api.FS) { f.Quotas = []api.Quota{{Ino: 3, Nodes: 9, Bytes: 9}} },
		func(f *api.FS) {
			f.S.Now, _ = tree.Ln(f.S.Now, 3, 1, "zz")
			f.S.Since = slices.Repeat([]int{f.S.Tick}, 5)
		},
	} {
		g := f
		with(&g)
		if Right(g) || Same(f, g) {
			t.Error(i)
		}
	}
	for i, with := range []func(f *api.FS){
		func(f *api.FS) { f.S.Tick++ }, func(f *api.FS) { f.S.Since = f.S.Since[1:] }, func(f *api.FS) { f.S.Pasts = nil }, func(f *api.FS) { f.S.Taken = nil }, func(f *api.FS) { f.S.Next++ }, func(f *api.FS) { f.Holds = nil }, func(f *api.FS) { f.Quotas = nil }, func(f *api.FS) { f.S.Now.Cookie++ },
		func(f *api.FS) { f.S.Pasts = slices.Clone(f.S.Pasts); f.S.Pasts[0].From++ }, func(f *api.FS) { f.S.Pasts = slices.Clone(f.S.Pasts); f.S.Pasts[0].Till++ }, func(f *api.FS) { f.S.Pasts = slices.Clone(f.S.Pasts); f.S.Pasts[0].Node.Data = nil },
	} {
		g := f
		with(&g)
		if Same(f, g) || Same(g, f) || !Same(g, g) {
			t.Error(i)
		}
	}
	g := after(t, base(t), api.Op{Kind: api.Link, Path: "/h", To: "/e/h"})
	if g.Quotas = []api.Quota{{Ino: 4, Nodes: 9, Bytes: 9}}; Right(g) {
		t.Error("a file of two domains")
	}
}

// someOp is any operation, often one that may be done.
func someOp(r *rand.Rand) api.Op {
	path := func() string {
		p := ""
		for range 1 + r.Intn(3) {
			p += "/" + string(rune('a'+r.Intn(3)))
		}
		if r.Intn(12) == 0 {
			return []string{"/", "", "/a/", "a"}[r.Intn(4)]
		}
		return p
	}
	o := api.Op{Kind: 1 + r.Intn(17), Client: r.Intn(3), Path: path(), To: path(), N: r.Intn(6) - 1, M: r.Intn(12) - 1, Handle: r.Intn(3)}
	switch {
	case r.Intn(3) == 0:
		o.Kind = api.Make
	case r.Intn(6) == 0:
		o.Kind = api.Open
	case o.Kind == api.Limit && r.Intn(3) > 0:
		o.N = 9
	case (o.Kind == api.Take || o.Kind == api.Peek) && r.Intn(2) > 0:
		o.Path = "/"
	}
	for range r.Intn(5) {
		o.Data = append(o.Data, byte(r.Intn(256)))
	}
	return o
}

// P11.2: what becomes of a right file system is right; what is refused is as it was.
func TestP112Right(t *testing.T) {
	r := rand.New(rand.NewSource(1))
	done := map[int]int{}
	for range 60 {
		f := New()
		for range 150 {
			o := someOp(r)
			g, a := Do(f, o)
			if !Right(g) {
				t.Fatal("not right", o, g)
			}
			if a.Err != api.OK && (!Same(f, g) || !alike(a, api.Ans{Err: a.Err})) {
				t.Fatal("refused, and changed", o, a)
			}
			if a.Err == api.OK {
				done[o.Kind]++
			}
			f = g
		}
	}
	for k := 1; k <= 17; k++ {
		if done[k] == 0 {
			t.Error("never done:", k)
		}
	}
	f := New()
	f.S.Tick = 1<<40 - 1 // the last tick but one: a file is unlinked, and freed, in one
	f.S.Now, _, _ = tree.Add(f.S.Now, 1, "f", api.File)
	f.S.Since = []int{0, 0}
	if g := after(t, f, api.Op{Kind: api.Unlink, Path: "/f"}); !Right(g) {
		t.Error("the last tick", g)
	}
}

// P11.3: what is written is read by each handle; an open file stays till it is let go.
func TestP113Files(t *testing.T) {
	f := after(t, base(t), open(2, 7, "/d/g"))
	r := rand.New(rand.NewSource(2))
	want := []byte("abc")
	for range 300 {
		from, data := r.Intn(40), make([]byte, r.Intn(6))
		r.Read(data)
		if r.Intn(5) == 0 {
			f = after(t, f, api.Op{Kind: api.Cut, Client: 1, Handle: 2, N: from})
			want = want[:min(from, len(want))]
		} else {
			f = after(t, f, write(1, 2, from, string(data)))
			if len(data) > 0 {
				want = append(want, make([]byte, max(0, from+len(data)-len(want)))...)
				copy(want[from:], data)
			}
		}
		at, many := r.Intn(50), r.Intn(50)
		_, a := Do(f, api.Op{Kind: api.Read, Client: 2, Handle: 7, N: at, M: many})
		if piece := want[min(at, len(want)):min(at+many, len(want))]; !bytes.Equal(a.Data, piece) {
			t.Fatal(a.Data, piece)
		}
	}
	f = after(t, f, api.Op{Kind: api.Unlink, Path: "/d/f"}, api.Op{Kind: api.Rename, Path: "/h", To: "/d/g"})
	for i, kind := range []int{api.Close, api.Crash} {
		_, a := Do(f, api.Op{Kind: api.Read, Client: 1 + i, Handle: []int{2, 7}[i], M: 4096})
		if a.Err != api.OK || !bytes.Equal(a.Data, want) {
			t.Fatal("an open file is gone", a)
		}
		f = after(t, f, api.Op{Kind: kind, Client: 1 + i, Handle: 2})
	}
	if _, ok := tree.Get(f.S.Now, 3); ok {
		t.Error("a file that nobody holds is left")
	}
}

// peeked is all that a snapshot tells, by path.
func peeked(f api.FS, id int, path string, out map[string]string) {
	_, a := Do(f, api.Op{Kind: api.Peek, N: id, Path: path})
	out[path] = fmt.Sprint(a)
	for _, s := range a.Names {
		peeked(f, id, strings.TrimSuffix(path, "/")+"/"+s, out)
	}
}

// P11.4: what a snapshot has stays, whatever is done, until it is dropped.
func TestP114Snapshots(t *testing.T) {
	r := rand.New(rand.NewSource(3))
	for range 40 {
		f := New()
		had := map[int]map[string]string{}
		for range 120 {
			o := someOp(r)
			g, a := Do(f, o)
			if a.Err == api.OK && o.Kind == api.Take {
				had[a.N] = map[string]string{}
				peeked(g, a.N, "/", had[a.N])
			}
			if a.Err == api.OK && o.Kind == api.Drop {
				delete(had, o.N)
			}
			f = g
		}
		for id, was := range had {
			now := map[string]string{}
			peeked(f, id, "/", now)
			if !reflect.DeepEqual(was, now) {
				t.Fatal(id, was, now)
			}
		}
		if len(had) != len(f.S.Taken) {
			t.Fatal(had, f.S.Taken)
		}
	}
}
