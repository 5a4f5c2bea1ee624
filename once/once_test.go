package once

import (
	"fmt"
	"math"
	"math/rand"
	"reflect"
	"slices"
	"testing"

	"catacomb/api"
	"catacomb/fs"
)

func make1(path string) api.Op { return api.Op{Kind: api.Make, Path: path, N: api.File} }

// P12.1: what is refused, told again and done, by the last request.
func TestP121Do(t *testing.T) {
	told := api.Ans{Ino: 77, Names: []string{"x"}}
	l := []api.Sess{{Client: 2, Seq: 3, Ans: told}, {Client: 9, Seq: 1 << 40, Ans: told}, {Client: 11, Seq: 1<<40 - 1}}
	f := fs.New()
	for i, x := range []struct {
		client, seq int
		err         api.Errno
	}{
		{-1, 0, api.ErrArg}, {16, 0, api.ErrArg}, {16, 1, api.ErrArg}, {2, 0, api.ErrOld}, {2, -1, api.ErrOld}, {2, 2, api.ErrOld}, {2, 5, api.ErrAhead}, {2, math.MaxInt, api.ErrAhead}, {2, math.MinInt, api.ErrOld},
		{3, 0, api.ErrOld}, {3, 2, api.ErrAhead}, {9, 1<<40 + 1, api.ErrAhead}, {9, 1<<40 - 1, api.ErrOld}, {15, 2, api.ErrAhead},
	} {
		g, m, a := Do(f, l, x.client, x.seq, make1("/a"))
		if !fs.Same(f, g) || !reflect.DeepEqual(l, m) || !reflect.DeepEqual(a, api.Ans{Err: x.err}) {
			t.Errorf("%d: %v", i, a)
		}
	}
	for _, x := range [][2]int{{2, 3}, {9, 1 << 40}} {
		g, m, a := Do(f, l, x[0], x[1], make1("/a"))
		if !fs.Same(f, g) || !reflect.DeepEqual(l, m) || !reflect.DeepEqual(a, told) {
			t.Error(x, a)
		}
	}
	for i, x := range []struct{ client, seq, at, many int }{{2, 4, 0, 3}, {0, 1, 0, 4}, {5, 1, 1, 4}, {15, 1, 3, 4}, {11, 1 << 40, 2, 3}} {
		o := make1("/a")
		o.Client = 99
		g, m, a := Do(f, l, x.client, x.seq, o)
		o.Client = x.client
		h, want := fs.Do(f, o)
		if !fs.Same(g, h) || !reflect.DeepEqual(a, want) || len(m) != x.many || !reflect.DeepEqual(m[x.at], api.Sess{Client: x.client, Seq: x.seq, Ans: want}) || !Right(m) {
			t.Errorf("%d: %v, %v", i, a, m)
		}
	}
	if len(l) != 3 || l[0].Seq != 3 {
		t.Error("sessions that were handed in are changed")
	}
	g, m, a := Do(f, l, 2, 4, api.Op{Kind: api.Look, Path: "/none"}) // an error of the file system is an answer, too
	if a.Err != api.ErrNone || m[0].Seq != 4 || m[0].Ans.Err != api.ErrNone || !fs.Same(f, g) {
		t.Error(a, m)
	}
}

// P12.1: which sessions are right.
func TestP121Right(t *testing.T) {
	s := func(client int, seq int) api.Sess { return api.Sess{Client: client, Seq: seq} }
	for i, x := range []struct {
		l     []api.Sess
		right bool
	}{
		{nil, true}, {[]api.Sess{s(0, 1), s(15, 1<<40)}, true}, {[]api.Sess{s(-1, 1)}, false}, {[]api.Sess{s(16, 1)}, false}, {[]api.Sess{s(1, 0)}, false}, {[]api.Sess{s(1, 1<<40+1)}, false}, {[]api.Sess{s(2, 1), s(1, 1)}, false}, {[]api.Sess{s(2, 1), s(2, 2)}, false},
	} {
		if Right(x.l) != x.right {
			t.Errorf("%d: %v", i, !x.right)
		}
	}
}

// P12.2: a request that comes again tells what it told, whatever came between from others.
func TestP122Again(t *testing.T) {
	r := rand.New(rand.NewSource(1))
	f, l := fs.New(), []api.Sess(nil)
	var told [16]api.Ans
	var seqs [16]int
	for i := range 500 {
		c := r.Intn(16)
		if seqs[c] > 0 && r.Intn(2) == 0 {
			g, m, a := Do(f, l, c, seqs[c], make1("/other"))
			if !fs.Same(f, g) || !reflect.DeepEqual(l, m) || !reflect.DeepEqual(a, told[c]) {
				t.Fatal(i, a, told[c])
			}
			continue
		}
		seqs[c]++
		o := make1(fmt.Sprint("/", r.Intn(300)))
		if r.Intn(2) == 0 {
			o.Kind = api.Unlink
		}
		f, l, told[c] = Do(f, l, c, seqs[c], o)
		if !fs.Right(f) || !Right(l) {
			t.Fatal("not right")
		}
	}
}

// P12.3: however often requests come, each that came in its turn is done once, in whatever order clients' do.
func TestP123Once(t *testing.T) {
	r := rand.New(rand.NewSource(2))
	for range 60 {
		f, l, once := fs.New(), []api.Sess(nil), fs.New()
		var seqs [4]int
		for range 80 {
			c, seq := r.Intn(4), 0
			o := api.Op{Kind: []int{api.Make, api.Unlink, api.Open, api.Write, api.Take}[r.Intn(5)], Path: "/" + string(rune('a'+r.Intn(3))), N: 1, Handle: r.Intn(2), Data: []byte{byte(r.Intn(9))}}
			seq = seqs[c] + r.Intn(5) - 2
			var a api.Ans
			f, l, a = Do(f, l, c, seq, o)
			if seq == seqs[c]+1 {
				o.Client = c
				var want api.Ans
				once, want = fs.Do(once, o)
				seqs[c]++
				if !reflect.DeepEqual(a, want) {
					t.Fatal(a, want)
				}
			}
			if !fs.Same(f, once) {
				t.Fatal("not done once")
			}
		}
		for c, seq := range seqs {
			i := slices.IndexFunc(l, func(s api.Sess) bool { return s.Client == c })
			if (i < 0) != (seq == 0) || i >= 0 && l[i].Seq != seq {
				t.Fatal(c, seq, l)
			}
		}
	}
}

// P12.4: what is old, or comes too soon, or of no client, changes nothing.
func TestP124Refused(t *testing.T) {
	r := rand.New(rand.NewSource(3))
	f, l := fs.New(), []api.Sess(nil)
	for i := range 40 {
		f, l, _ = Do(f, l, i%3, i/3+1, make1(fmt.Sprint("/", i)))
		last := i/3 + 1
		for _, x := range []struct {
			client, seq int
			err         api.Errno
		}{{i % 3, last - 1 - r.Intn(5), api.ErrOld}, {i % 3, last + 2 + r.Intn(5), api.ErrAhead}, {16 + r.Intn(5), last, api.ErrArg}, {-1 - r.Intn(5), last, api.ErrArg}} {
			g, m, a := Do(f, l, x.client, x.seq, make1("/no"))
			if !fs.Same(f, g) || !reflect.DeepEqual(l, m) || a.Err != x.err {
				t.Fatal(x, a)
			}
		}
	}
}
