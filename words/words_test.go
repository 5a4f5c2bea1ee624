package words

import (
	"math"
	"testing"
)

// What is escaped is read back, and nothing else is.
func TestEscape(t *testing.T) {
	all := ""
	for c := range 256 {
		s := string([]byte{byte(c)})
		all += s
		e := Escape(s)
		if back, ok := Unescape(e); back != s || !ok || (len(e) != 1) != (len(e) == 3) {
			t.Errorf("%q: %q, %q", s, e, back)
		}
	}
	if back, ok := Unescape(Escape(all)); back != all || !ok {
		t.Error(back)
	}
	if e := Escape("azAZ09/._-@[`{:"); e != "azAZ09/._-%40%5b%60%7b%3a" {
		t.Error(e)
	}
	if e := Escape("aZ09/._- %\x00\xff="); e != "aZ09/._-%20%25%00%ff%3d" {
		t.Error(e)
	}
	for _, s := range []string{"%", "%2", "%zz", "%2F", "%61", " ", "a b", "%FF", "%4", "a%", ",", "="} {
		if _, ok := Unescape(s); ok {
			t.Errorf("%q", s)
		}
	}
}

// Numbers are told without anything needless.
func TestNumber(t *testing.T) {
	for s, want := range map[string]int{"0": 0, "-1": -1, "12": 12, "9223372036854775807": math.MaxInt, "-9223372036854775808": math.MinInt} {
		if n, ok := Number(s); n != want || !ok {
			t.Error(s, n)
		}
	}
	for _, s := range []string{"", "-", "-0", "+1", "01", "1_0", " 1", "0x1", "9223372036854775808", "1.0"} {
		if n, ok := Number(s); n != 0 || ok {
			t.Error(s, n)
		}
	}
}

// Lines are read as they were written; what goes wrong stays.
func TestLine(t *testing.T) {
	s := Line("go", Int("a", 0), Int("b", -3), Text("c", ""), Text("d", "x y"))
	if s != "go b=-3 d=x%20y" {
		t.Error(s)
	}
	r := Read(s)
	if r.First != "go" || r.Int("a") != 0 || r.Int("b") != -3 || r.Text("c") != "" || r.Text("d") != "x y" || r.Wrong() {
		t.Error(r)
	}
	if v, ok := r.Has("d"); v != "x%20y" || !ok {
		t.Error(v)
	}
	if r.Int("d"); !r.Wrong() {
		t.Error("a text is a number")
	}
	for _, s := range []string{"go b", "go ", "go  b=1"} {
		if !Read(s).Wrong() {
			t.Errorf("%q", s)
		}
	}
	table := []Kind{{1, "one"}, {2, "two"}}
	for n, w := range map[int]string{1: "one", 2: "two", 3: "k3", 0: "k0", -4: "k-4"} {
		if got := WordOf(table, n, "k"); got != w {
			t.Error(n, got)
		}
		if got, ok := KindOf(table, w, "k"); got != n || !ok {
			t.Error(w, got)
		}
	}
	for _, w := range []string{"", "k", "three", "k+1", "one1"} {
		if n, ok := KindOf(table, w, "k"); n != 0 || ok {
			t.Error(w, n)
		}
	}
}
