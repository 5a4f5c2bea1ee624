package run

import (
	"fmt"
	"math"
	"math/rand"
	"reflect"
	"slices"
	"strings"
	"testing"

	"catacomb/api"
)

// P33.1: the example, each kind's word, and each field.
func TestP331Line(t *testing.T) {
	for want, x := range map[string]api.Turn{
		"ask user=1 : look path=/": {Kind: api.TurnAsk, User: 1, Op: api.Op{Kind: api.Look, Path: "/"}}, "turn0": {}, "turn17": {Kind: 17}, "turn-3 user=-1": {Kind: -3, User: -1}, "sweep": {Kind: api.TurnSweep, Data: []byte{}, Op: api.Op{Data: []byte{}}},
		"write user=1 n=2 m=3 from=4 to=5 many=6 data=%3a%20x": {Kind: api.TurnWrite, User: 1, N: 2, M: 3, From: 4, To: 5, Many: 6, Data: []byte(": x")}, "ask : op0 client=3": {Kind: api.TurnAsk, Op: api.Op{Client: 3}}, "ask data=a : write n=1 data=b": {Kind: api.TurnAsk, Data: []byte("a"), Op: api.Op{Kind: api.Write, N: 1, Data: []byte("b")}},
	} {
		if got := Line(x); got != want {
			t.Errorf("%q, not %q", got, want)
		}
	}
	for i, w := range strings.Fields("ask serve tell die fence time lease give write flush store rot power up mend sweep") {
		if got := Line(api.Turn{Kind: i + 1}); got != w {
			t.Error(got, w)
		}
	}
	for i, with := range []func(o *api.Op){func(o *api.Op) { o.Kind = 1 }, func(o *api.Op) { o.Client = 1 }, func(o *api.Op) { o.Path = "x" }, func(o *api.Op) { o.To = "x" }, func(o *api.Op) { o.N = 1 }, func(o *api.Op) { o.M = 1 }, func(o *api.Op) { o.Handle = 1 }, func(o *api.Op) { o.Data = []byte{1} }} {
		x := api.Turn{Kind: 1}
		if with(&x.Op); !strings.Contains(Line(x), " : ") {
			t.Error(i)
		}
	}
}

// P33.1: what is no line, and no script.
func TestP331Wrong(t *testing.T) {
	for _, s := range []string{"", " ", "ask ", " ask", "ask : ", "ask :", "ask : op0", "ask : look ", "ask  : look", "ask : look : look", "ask:look", "turn", "turn1", "turn16", "turn01", "turn+17", "Ask", "ask user=0", "ask user=01", "ask m=1 n=1", "ask n=1 n=1", "ask x=1", "ask data=", "ask data=a b", "ask data=%61", "ask : make n=01", "look", "ask user", "ask\n"} {
		if x, err := ReadLine(s); err != api.ErrForm || !reflect.DeepEqual(x, api.Turn{}) {
			t.Errorf("%q: %v, %d", s, x, err)
		}
	}
	for _, s := range []string{"", "\n", "world 1 1", "world 1\n", "world\n", "world 1 1 \n", "world  1 1\n", "world 01 1\n", "world 1 +1\n", "world 1 1 x\n", "World 1 1\n", "world 1 1\nask", "world 1 1\n\n", "world 1 1\nask\n\n", "world 1 1\nlook\n", "ask\nworld 1 1\n", "world 1 1\r\n", "world 1 1 1 0x1\n", " world 1 1\n", "world 1 1\nworld 1 1\n"} {
		if x, err := Read(s); err != api.ErrForm || !reflect.DeepEqual(x, api.Script{}) {
			t.Errorf("%q: %v, %d", s, x, err)
		}
		if out, err := Do(s); err != api.ErrForm || out != "" {
			t.Errorf("%q: %q, %d", s, out, err)
		}
	}
}

// P33.1: which scripts may be done.
func TestP331May(t *testing.T) {
	for s, want := range map[string]api.Errno{
		"world 1 1\n": 0, "world 8 5\n": 0, "world 0 1\n": api.ErrArg, "world 9 1\n": api.ErrArg, "world -1 1\n": api.ErrArg, "world 1 0\n": api.ErrArg, "world 1 6\n": api.ErrArg, "world 1 1 9 -9 9 9 9 9 9 9 9\n": 0,
		"world 1 1\ntime n=-1\n": api.ErrArg, "world 1 1\ntime n=1099511627776\n": 0, "world 1 1\ntime n=1099511627777\n": api.ErrArg, "world 1 1\nrot m=-1\n": api.ErrArg, "world 1 1\nrot m=1099511627776\n": 0, "world 1 1\nrot m=1099511627777\n": api.ErrArg, "world 1 1\nrot from=-1\n": api.ErrArg, "world 1 1\nrot from=1099511627776\n": 0, "world 1 1\nrot from=1099511627777\n": api.ErrArg,
		"world 1 1\nlease to=-1\n": 0, "world 1 1\nask user=-1\n": 0, "world 1 1\nturn99 many=-7\n": 0, "world 1 1\ntime n=9223372036854775807\n": api.ErrArg, "world 1 1\ntime n=9223372036854775808\n": api.ErrForm, "world 1 1\nask : read n=-1\n": 0,
	} {
		out, err := Do(s)
		if err != want || (err != api.OK) != (out == "") || err == api.OK && !strings.HasSuffix(out, "/ dir 1\norder\n") {
			t.Errorf("%q: %q, %d", s, out, err)
		}
	}
}

// P33.1: what comes of a script, line by line.
func TestP331Do(t *testing.T) {
	s := `world 2 2 1 -1
ask user=1 : make path=/a%20b n=1
serve user=1
tell user=1
ask : open path=/a%20b
serve
tell
ask : write data=x%00
serve
ask user=1 : look path=/c
serve user=1
tell user=1
store n=2
store n=9
ask user=1 : make path=/e n=1
serve user=1
store n=3
power n=1
rot m=0 from=3
`
	s = strings.Replace(s, "rot m=0 from=3", "rot from=3", 1)
	want := `begin 1: make client=1 path=/a%20b n=1
end 1: ok ino=2 kind=1
begin 0: open path=/a%20b
end 0: ok ino=2
begin 0: write data=x%00
begin 1: look client=1 path=/c
end 1: error70
begin 1: make client=1 path=/e n=1
/ dir 1
/a%20b file 2 links=1 data=x%00
/e file 3 links=1
load 2 error251
load 3 
order 0 2 4 5
`
	if out, err := Do(s); err != api.OK || out != want {
		t.Errorf("%d:\n%s", err, out)
	}
	out, err := Do(strings.TrimSuffix(s, "power n=1\nrot from=3\n"))
	if err != api.OK || !strings.Contains(out, "\nload 2 x%00\n") {
		t.Errorf("%d:\n%s", err, out)
	}
}

// P33.1: a history of more than 64 events has no order told.
func TestP331Long(t *testing.T) {
	s := "world 1 1\n" + strings.Repeat("ask : look path=/\nserve\ntell\n", 32)
	out, err := Do(s)
	if err != api.OK || !strings.HasSuffix(out, " 58 60 62\n") || !strings.Contains(out, "\norder 0 2 4 ") {
		t.Error(err, out)
	}
	if out, err = Do(s + "ask : look path=/\n"); err != api.OK || !strings.HasSuffix(out, "\nlong\n") || strings.Contains(out, "order") {
		t.Error(err, out)
	}
}

func someInt(r *rand.Rand) int {
	return []int{0, 0, 1, -1, r.Intn(30) - 5, math.MaxInt, math.MinInt}[r.Intn(7)]
}

func someStr(r *rand.Rand) string {
	b := make([]byte, r.Intn(3)*r.Intn(5))
	for i := range b {
		b[i] = "aZ9/._- %=,:\n\x00\xff"[r.Intn(15)]
	}
	return string(b)
}

func bytesOf(s string) []byte {
	if s == "" {
		return nil
	}
	return []byte(s)
}

// anyTurn has anything in each field.
func anyTurn(r *rand.Rand) api.Turn {
	t := api.Turn{Kind: someInt(r), User: someInt(r), N: someInt(r), M: someInt(r), From: someInt(r), To: someInt(r), Many: someInt(r), Data: bytesOf(someStr(r))}
	if r.Intn(2) == 0 {
		t.Op = api.Op{Kind: someInt(r), Client: someInt(r), Path: someStr(r), To: someStr(r), N: someInt(r), M: someInt(r), Handle: someInt(r), Data: bytesOf(someStr(r))}
	}
	return t
}

// P33.2: what is written is read as it was, and nothing else is read.
func TestP332Back(t *testing.T) {
	r := rand.New(rand.NewSource(1))
	for range 3000 {
		x := anyTurn(r)
		if y, err := ReadLine(Line(x)); err != api.OK || !reflect.DeepEqual(x, y) {
			t.Fatal(x, y, err)
		}
		s := api.Script{Users: someInt(r), Servers: someInt(r)}
		for range r.Intn(4) {
			s.Speeds = append(s.Speeds, someInt(r))
		}
		for range r.Intn(4) {
			s.Turns = append(s.Turns, anyTurn(r))
		}
		if u, err := Read(Text(s)); err != api.OK || !reflect.DeepEqual(s, u) {
			t.Fatal(s, u, err)
		}
	}
	read := 0
	for range 30000 {
		b := []byte(Line(anyTurn(r)))
		for range r.Intn(3) {
			i := r.Intn(len(b) + 1)
			b = slices.Insert(b, i, " =:%0a1n\n-"[r.Intn(10)])
			if i := r.Intn(len(b)); r.Intn(2) == 0 {
				b = slices.Delete(b, i, i+1)
			}
		}
		if x, err := ReadLine(string(b)); err == api.OK {
			if read++; Line(x) != string(b) {
				t.Fatalf("%q: %v", b, x)
			}
		}
		s := "world 1 1\n" + string(b) + "\n"
		if x, err := Read(s); err == api.OK && Text(x) != s {
			t.Fatalf("%q: %v", s, x)
		}
	}
	if read < 5000 {
		t.Error(read)
	}
}

// someScript is one of turns that often may be.
func someScript(r *rand.Rand) api.Script {
	x := api.Script{Users: 1 + r.Intn(4), Servers: 1 + r.Intn(3)}
	for range r.Intn(6) {
		x.Speeds = append(x.Speeds, r.Intn(4)-1)
	}
	for u := range x.Users {
		path := "/" + string(rune('a'+u%2))
		for _, o := range []api.Op{{Kind: api.Make, Path: path, N: 1}, {Kind: api.Open, Path: path}} {
			x.Turns = append(x.Turns, api.Turn{Kind: api.TurnAsk, User: u, Op: o}, api.Turn{Kind: api.TurnServe, User: u}, api.Turn{Kind: api.TurnTell, User: u})
		}
	}
	for range r.Intn(200) {
		t := api.Turn{Kind: 1 + r.Intn(16), User: r.Intn(x.Users), N: 2 + r.Intn(2), M: 1 + r.Intn(2), From: r.Intn(9), Many: 1 + r.Intn(40), Data: []byte{byte(r.Intn(5)), 7}}
		t.To = t.From + 12
		if r.Intn(3) == 0 {
			t.Kind = 1 + r.Intn(3)
		}
		if t.Kind == api.TurnAsk {
			t.Op = api.Op{Kind: 1 + r.Intn(16), Path: "/" + string(rune('a'+r.Intn(3))), To: "/" + string(rune('a'+r.Intn(3))), N: r.Intn(3), M: r.Intn(5), Data: []byte{byte(r.Intn(5))}}
		}
		if t.Kind == api.TurnDie && r.Intn(3) > 0 {
			continue
		}
		x.Turns = append(x.Turns, t)
		if t.Kind == api.TurnAsk && r.Intn(2) == 0 {
			x.Turns = append(x.Turns, api.Turn{Kind: api.TurnServe, User: t.User}, api.Turn{Kind: api.TurnTell, User: t.User})
		}
	}
	return x
}

// P33.3: no script is told none. P33.4: the same script is told the same.
func TestP333True(t *testing.T) {
	r := rand.New(rand.NewSource(2))
	told := map[string]int{}
	for range 400 {
		out, err := Do(Text(someScript(r)))
		if err != api.OK {
			t.Fatal(err)
		}
		lines := strings.Split(strings.TrimSuffix(out, "\n"), "\n")
		word, _, _ := strings.Cut(lines[len(lines)-1], " ")
		if told[word]++; word != "order" && word != "long" {
			t.Fatal(out)
		}
	}
	if told["order"] < 50 || told["long"] == 0 {
		t.Error(told)
	}
}

func TestP334Again(t *testing.T) {
	r := rand.New(rand.NewSource(3))
	for range 100 {
		s := Text(someScript(r))
		a, e1 := Do(s)
		for range 3 {
			if b, e2 := Do(s); a != b || e1 != e2 {
				t.Fatal(fmt.Sprint(e1, e2), a, b)
			}
		}
	}
}
