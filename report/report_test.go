package report

import (
	"math"
	"math/rand"
	"reflect"
	"slices"
	"strconv"
	"strings"
	"testing"

	"catacomb/api"
	"catacomb/tree"
)

// P32.1: the examples, each field, and each kind's word.
func TestP321Lines(t *testing.T) {
	for want, o := range map[string]api.Op{
		"make client=3 path=/a%20b n=2": {Kind: api.Make, Client: 3, Path: "/a b", N: 2}, "op0": {}, "op18": {Kind: 18}, "op-7 client=-1": {Kind: -7, Client: -1},
		"write client=1 path=p to=t n=-2 m=4 handle=5 data=%00A%ff": {Kind: api.Write, Client: 1, Path: "p", To: "t", N: -2, M: 4, Handle: 5, Data: []byte{0, 'A', 255}}, "look": {Kind: api.Look, Data: []byte{}},
	} {
		if got := Op(o); got != want {
			t.Errorf("%q, not %q", got, want)
		}
	}
	for i, w := range strings.Fields("look make link unlink rename list stat open close read write cut limit take peek drop crash") {
		if got := Op(api.Op{Kind: i + 1}); got != w {
			t.Error(got, w)
		}
	}
	for want, a := range map[string]api.Ans{
		"error70": {Err: api.ErrNone}, "ok ino=4 names=x,": {Ino: 4, Names: []string{"x", ""}}, "ok": {Names: []string{}, Data: []byte{}}, "ok names=": {Names: []string{""}}, "ok names=,": {Names: []string{"", ""}}, "error-5 ino=1 kind=2 n=3 m=-4 names=a%2c,%25 data=z": {Err: -5, Ino: 1, Kind: 2, N: 3, M: -4, Names: []string{"a,", "%"}, Data: []byte("z")},
	} {
		if got := Ans(a); got != want {
			t.Errorf("%q, not %q", got, want)
		}
	}
	l := []api.Event{{Kind: api.Begin, Client: 2, Op: api.Op{Kind: api.Look, Client: 2, Path: "/"}, Ans: api.Ans{Ino: 9}}, {Kind: 3, Client: 1}, {Kind: api.End, Client: -2, Ans: api.Ans{Err: 70}, Op: api.Op{Kind: 4}}, {Kind: 0}}
	if got := Hist(l); got != "begin 2: look client=2 path=/\nend -2: error70\n" || Hist(nil) != "" {
		t.Errorf("%q", got)
	}
}

// P32.1: what is no line.
func TestP321Wrong(t *testing.T) {
	for _, s := range []string{
		"", " ", "look ", " look", "look  n=1", "Look", "op", "op1", "op17", "op01", "op+18", "op-0", "look n=0", "look n=", "look n=01", "look n=+1", "look n=1 client=1", "look n=1 n=1", "look n=1 n=2", "look x=1", "look path=", "look path=a b", "look path=%61", "look path=%2F", "look path=%", "look data", "look data=%zz",
		"look n=9223372036854775808", "look handle=1 m=1", "ok", "error70", "look\n", "look path=%FF", "look path=%ff ",
	} {
		if o, err := ReadOp(s); err != api.ErrForm || !reflect.DeepEqual(o, api.Op{}) {
			t.Errorf("%q: %v, %d", s, o, err)
		}
	}
	for _, s := range []string{"", "ok ", "error", "error0", "error070", "error+1", "ok70", "ok ino=0", "ok names", "ok names=a names=b", "ok n=1 kind=1", "ok names=a data=", "ok names=a b", "ok path=a", "look", "ok names=%61", "ok data=x names=y"} {
		if a, err := ReadAns(s); err != api.ErrForm || !reflect.DeepEqual(a, api.Ans{}) {
			t.Errorf("%q: %v, %d", s, a, err)
		}
	}
	for _, s := range []string{"\n", "begin 0: look", "begin 0: look\n\n", "begin 0 look\n", "begin 0:look\n", "begin 00: look\n", "begin : look\n", "begin 0: ok\n", "end 0: look\n", "begin 0: \n", "begin\n", "other 0: look\n", "begin 0: look\nx", "end 0: ok\r\n", "begin 0:  look\n", "end 0: ok\nbegin"} {
		if l, err := ReadHist(s); err != api.ErrForm || len(l) != 0 {
			t.Errorf("%q: %v, %d", s, l, err)
		}
	}
	if l, err := ReadHist(""); err != api.OK || len(l) != 0 {
		t.Error("no events", err)
	}
}

func someInt(r *rand.Rand) int {
	return []int{0, 0, 1, -1, r.Intn(30) - 5, math.MaxInt, math.MinInt}[r.Intn(7)]
}

func someStr(r *rand.Rand) string {
	b := make([]byte, r.Intn(3)*r.Intn(5))
	for i := range b {
		b[i] = "aZ9/._- %=,:\n\x00\xff"[r.Intn(15)]
	}
	return string(b)
}

func someOp(r *rand.Rand) api.Op {
	return api.Op{Kind: someInt(r), Client: someInt(r), Path: someStr(r), To: someStr(r), N: someInt(r), M: someInt(r), Handle: someInt(r), Data: bytesOf(someStr(r))}
}

func someAns(r *rand.Rand) api.Ans {
	a := api.Ans{Err: api.Errno(someInt(r)), Ino: someInt(r), Kind: someInt(r), N: someInt(r), M: someInt(r), Data: bytesOf(someStr(r))}
	for range r.Intn(4) {
		a.Names = append(a.Names, someStr(r))
	}
	return a
}

func someHist(r *rand.Rand) []api.Event {
	var l []api.Event
	for range r.Intn(5) {
		if r.Intn(2) == 0 {
			l = append(l, api.Event{Kind: api.Begin, Client: someInt(r), Op: someOp(r)})
		} else {
			l = append(l, api.Event{Kind: api.End, Client: someInt(r), Ans: someAns(r)})
		}
	}
	return l
}

// P32.2: what was written is read as it was; unlike things have unlike lines.
func TestP322Back(t *testing.T) {
	r := rand.New(rand.NewSource(1))
	ops, answers := map[string]api.Op{}, map[string]api.Ans{}
	for range 5000 {
		o, a, l := someOp(r), someAns(r), someHist(r)
		if p, err := ReadOp(Op(o)); err != api.OK || !reflect.DeepEqual(p, o) {
			t.Fatal(o, p, err)
		}
		if b, err := ReadAns(Ans(a)); err != api.OK || !reflect.DeepEqual(b, a) {
			t.Fatal(a, b, err)
		}
		if m, err := ReadHist(Hist(l)); err != api.OK || !slices.EqualFunc(m, l, func(x, y api.Event) bool { return reflect.DeepEqual(x, y) }) {
			t.Fatal(l, m, err)
		}
		if p, had := ops[Op(o)]; had && !reflect.DeepEqual(o, p) {
			t.Fatal("alike", o, p)
		}
		if b, had := answers[Ans(a)]; had && !reflect.DeepEqual(a, b) {
			t.Fatal("alike", a, b)
		}
		ops[Op(o)], answers[Ans(a)] = o, a
	}
}

// P32.2: what is read is written just so.
func TestP322Just(t *testing.T) {
	r := rand.New(rand.NewSource(2))
	read := 0
	for range 30000 {
		b := []byte(Op(someOp(r)))
		if r.Intn(2) == 0 {
			b = []byte(Ans(someAns(r)))
		}
		for range r.Intn(3) {
			i := r.Intn(len(b) + 1)
			b = slices.Insert(b, i, " =,%0a1nok"[r.Intn(10)])
			if i := r.Intn(len(b)); r.Intn(2) == 0 {
				b = slices.Delete(b, i, i+1)
			}
		}
		s := string(b)
		if o, err := ReadOp(s); err == api.OK {
			if read++; Op(o) != s {
				t.Fatalf("%q: %v", s, o)
			}
		}
		if a, err := ReadAns(s); err == api.OK {
			if read++; Ans(a) != s {
				t.Fatalf("%q: %v", s, a)
			}
		}
		h := "begin 1: " + s + "\n"
		if l, err := ReadHist(h); err == api.OK && Hist(l) != h {
			t.Fatalf("%q: %v", h, l)
		}
	}
	if read < 5000 {
		t.Error(read)
	}
}

// P32.3: a line has no byte but letters, digits, and some, and blanks where they part words.
func TestP323Plain(t *testing.T) {
	r := rand.New(rand.NewSource(3))
	for range 5000 {
		for _, s := range []string{Op(someOp(r)), Ans(someAns(r))} {
			for _, c := range []byte(s) {
				if !strings.ContainsRune("abcdefghijklmnopqrstuvwxyzABCDEFGHIJKLMNOPQRSTUVWXYZ0123456789/._-%=, ", rune(c)) {
					t.Fatalf("%q", s)
				}
			}
			if strings.Contains(s, "  ") || strings.TrimSpace(s) != s || s == "" {
				t.Fatalf("%q", s)
			}
		}
	}
}

// grown is a tree by anything that may befall it.
func grown(r *rand.Rand) api.Tree {
	t := tree.New()
	ino := func() int { return 1 + r.Intn(t.Next) }
	for range 30 {
		s := []string{"a", "b b", "%", "\xff"}[r.Intn(4)]
		switch r.Intn(7) {
		case 0, 1:
			t, _, _ = tree.Add(t, ino(), s, api.Dir)
		case 2, 3:
			t, _, _ = tree.Add(t, ino(), s, api.File)
		case 4:
			t, _ = tree.Put(t, ino(), []byte(someStr(r)))
		case 5:
			t, _ = tree.Ln(t, ino(), ino(), s)
		default:
			t, _, _ = tree.Un(t, ino(), s)
		}
	}
	return t
}

// P32.1: a tree's lines, in order.
func TestP321Tree(t *testing.T) {
	g := tree.New()
	if Tree(g) != "/ dir 1\n" {
		t.Errorf("%q", Tree(g))
	}
	g, _, _ = tree.Add(g, 1, "b", api.Dir)
	g, _, _ = tree.Add(g, 2, "x y", api.File)
	g, _ = tree.Put(g, 3, []byte("a=b"))
	g, _, _ = tree.Add(g, 1, "c", api.File)
	g, _, _ = tree.Add(g, 1, "a", api.Dir)
	g, _ = tree.Ln(g, 3, 1, "z")
	g, _, _ = tree.Add(g, 1, "o", api.File)
	g, _ = tree.Put(g, 6, []byte("!"))
	g, _, _ = tree.Add(g, 1, "p", api.File)
	g, _, _ = tree.Un(g, 1, "o")
	g, _, _ = tree.Un(g, 1, "p")
	want := "/ dir 1\n/a dir 5\n/b dir 2\n/b/x%20y file 3 links=2 data=a%3db\n/c file 4 links=1\n/z file 3 links=2 data=a%3db\n- file 6 data=%21\n- file 7\n"
	if Tree(g) != want {
		t.Errorf("%q", Tree(g))
	}
}

// P32.4: each line's path leads to the number that stands there; there are as many lines as entries and orphans, and one.
func TestP324Trees(t *testing.T) {
	r := rand.New(rand.NewSource(4))
	for range 300 {
		g := grown(r)
		lines := strings.Split(strings.TrimSuffix(Tree(g), "\n"), "\n")
		many := 1
		for _, n := range g.Nodes {
			many += len(n.Ents)
			if n.Kind == api.File && n.Links == 0 {
				many++
			}
		}
		if len(lines) != many || lines[0] != "/ dir 1" {
			t.Fatal(many, lines)
		}
		seen := map[string]bool{}
		for _, line := range lines {
			parts := strings.Split(line, " ")
			ino, _ := strconv.Atoi(parts[2])
			n, ok := tree.Get(g, ino)
			if parts[0] == "-" {
				if !ok || n.Links != 0 || n.Kind != api.File {
					t.Fatal(line)
				}
				continue
			}
			path := ""
			for i := 0; i < len(parts[0]); i++ {
				c := parts[0][i]
				if c == '%' {
					x, _ := strconv.ParseUint(parts[0][i+1:i+3], 16, 8)
					c, i = byte(x), i+2
				}
				path += string([]byte{c})
			}
			at, err := tree.Walk(g, path)
			if err != api.OK || at != ino || !ok || seen[path] || (parts[1] == "dir") != (n.Kind == api.Dir) {
				t.Fatal(line, at, err)
			}
			seen[path] = true
		}
	}
}
