package cache

import (
	"bytes"
	"fmt"
	"math"
	"math/rand"
	"slices"
	"testing"

	"catacomb/api"
)

func same(a []api.Kept, b []api.Kept) bool {
	return slices.EqualFunc(a, b, func(x, y api.Kept) bool {
		return x.Ino == y.Ino && x.Name == y.Name && x.Page == y.Page && x.Is == y.Is && x.Until == y.Until && bytes.Equal(x.Data, y.Data)
	})
}

func pg(ino int, page int, data string, until int) api.Kept {
	return api.Kept{Ino: ino, Page: page, Data: []byte(data), Until: until}
}

func nm(dir int, name string, is int, until int) api.Kept {
	return api.Kept{Ino: dir, Name: name, Is: is, Until: until}
}

// P23.1: which rows are right.
func TestP231Right(t *testing.T) {
	for i, x := range []struct {
		l     []api.Kept
		right bool
	}{
		{nil, true}, {[]api.Kept{pg(1, 0, "a", 5), pg(1, 1, "", 0), nm(1, "a", 4, 5), nm(1, "ab", 0, 5), nm(1, "b", 0, 5), pg(2, -3, "x", -1)}, true}, {[]api.Kept{nm(1, "a", 4, 5), pg(1, 0, "a", 5)}, false}, {[]api.Kept{pg(2, 0, "", 5), pg(1, 0, "", 5)}, false}, {[]api.Kept{pg(1, 1, "", 5), pg(1, 0, "", 5)}, false}, {[]api.Kept{pg(1, 1, "", 5), pg(1, 1, "", 6)}, false},
		{[]api.Kept{nm(1, "b", 4, 5), nm(1, "a", 4, 5)}, false}, {[]api.Kept{nm(1, "ab", 4, 5), nm(1, "a", 4, 5)}, false}, {[]api.Kept{nm(1, "a", 4, 5), nm(1, "a", 5, 5)}, false}, {[]api.Kept{{Ino: 1, Is: 2}}, false}, {[]api.Kept{{Ino: 1, Name: "a", Page: 2}}, false}, {[]api.Kept{{Ino: 1, Name: "a", Data: []byte{1}}}, false}, {[]api.Kept{nm(1, "\xff", 1, 1), nm(2, "a", 1, 1)}, true},
	} {
		if Right(x.l) != x.right {
			t.Errorf("%d: %v", i, !x.right)
		}
	}
}

// P23.1: what is kept, told, forgotten and over, by words.
func TestP231Rows(t *testing.T) {
	var l []api.Kept
	l = Name(l, 1, "b", 7, 5)
	l = Page(l, 1, 3, []byte("x"), 5)
	l = Name(l, 1, "a", 0, 6)
	l = Page(l, 1, 2, nil, 7)
	l = Name(l, 0, "z", 9, 8)
	want := []api.Kept{nm(0, "z", 9, 8), pg(1, 2, "", 7), pg(1, 3, "x", 5), nm(1, "a", 0, 6), nm(1, "b", 7, 5)}
	if !same(l, want) || !Right(l) {
		t.Fatal(l)
	}
	if got := Name(l, 1, "", 4, 9); !same(got, want) {
		t.Error("an empty name", got)
	}
	got := Page(Name(l, 1, "b", 0, 3), 1, 3, []byte("yy"), 2)
	if !same(got, []api.Kept{want[0], want[1], pg(1, 3, "yy", 2), want[3], nm(1, "b", 0, 3)}) || !same(l, want) {
		t.Error(got)
	}
	for i, x := range []struct {
		ino, page, now int
		data           string
		ok             bool
	}{{1, 3, 4, "x", true}, {1, 3, 5, "", false}, {1, 3, 6, "", false}, {1, 3, math.MinInt, "x", true}, {1, 2, 6, "", true}, {1, 0, 0, "", false}, {0, 0, 0, "", false}, {2, 3, 0, "", false}, {1, 4, 0, "", false}} {
		if b, ok := GetPage(l, x.ino, x.page, x.now); string(b) != x.data || ok != x.ok {
			t.Errorf("%d: %q, %v", i, b, ok)
		}
	}
	for i, x := range []struct {
		dir  int
		name string
		now  int
		is   int
		ok   bool
	}{{1, "b", 4, 7, true}, {1, "b", 5, 0, false}, {1, "a", 5, 0, true}, {1, "a", 6, 0, false}, {1, "c", 0, 0, false}, {0, "z", 7, 9, true}, {2, "z", 7, 0, false}, {1, "", 0, 0, false}} {
		if is, ok := GetName(l, x.dir, x.name, x.now); is != x.is || ok != x.ok {
			t.Errorf("%d: %d, %v", i, is, ok)
		}
	}
	zero := Page(nil, 1, 0, []byte("q"), 9)
	if is, ok := GetName(zero, 1, "", 0); is != 0 || ok {
		t.Error("an empty name is a page")
	}
	if got := Forget(l, 1); !same(got, want[:1]) {
		t.Error(got)
	}
	if got := Forget(l, 2); !same(got, want) {
		t.Error(got)
	}
	if got := Age(l, 5); !same(got, []api.Kept{want[0], want[1], want[3]}) || !same(Age(l, 4), want) || len(Age(l, 8)) != 0 || len(Age(l, 7)) != 1 {
		t.Error(got)
	}
	b := []byte("m")
	got = Page(nil, 1, 1, b, 9)
	if b[0] = 'n'; string(got[0].Data) != "m" {
		t.Error("bytes that were handed in are kept")
	}
}

// model is what was kept last, by what it is of.
type model map[string]api.Kept

// step does one thing to rows and the model.
func (m model) step(r *rand.Rand, l []api.Kept) []api.Kept {
	ino, page, until := r.Intn(4), r.Intn(3), r.Intn(20)
	name := []string{"a", "ab", "b", ""}[r.Intn(4)]
	switch r.Intn(8) {
	case 0, 1, 2:
		k := pg(ino, page, fmt.Sprint(r.Intn(99)), until)
		m[fmt.Sprint(ino, " ", page)] = k
		return Page(l, ino, page, k.Data, until)
	case 3, 4, 5:
		if name != "" {
			m[fmt.Sprint(ino, "/", name)] = nm(ino, name, r.Intn(3), until)
		}
		return Name(l, ino, name, m[fmt.Sprint(ino, "/", name)].Is, until)
	case 6:
		for s, k := range m {
			if k.Ino == ino {
				delete(m, s)
			}
		}
		return Forget(l, ino)
	}
	for s, k := range m {
		if k.Until <= until {
			delete(m, s)
		}
	}
	return Age(l, until)
}

// P23.2: what was kept last is told until its time, and nothing else ever is.
func TestP232Last(t *testing.T) {
	r := rand.New(rand.NewSource(1))
	for range 200 {
		var l []api.Kept
		m := model{}
		for range 60 {
			l = m.step(r, l)
			if !Right(l) || len(l) != len(m) {
				t.Fatal("not right", l)
			}
			now := r.Intn(22) - 1
			for ino := range 5 {
				for page := range 4 {
					b, ok := GetPage(l, ino, page, now)
					k, had := m[fmt.Sprint(ino, " ", page)]
					if want := had && now < k.Until; ok != want || ok && !bytes.Equal(b, k.Data) || !ok && len(b) > 0 {
						t.Fatal(ino, page, now, b, ok)
					}
				}
				for _, s := range []string{"a", "ab", "b", "", "c"} {
					is, ok := GetName(l, ino, s, now)
					k, had := m[fmt.Sprint(ino, "/", s)]
					if want := had && now < k.Until; ok != want || ok && is != k.Is || !ok && is != 0 {
						t.Fatal(ino, s, now, is, ok)
					}
				}
			}
		}
	}
}

// P23.3: two that are unlike are kept in any order alike.
func TestP233Apart(t *testing.T) {
	r := rand.New(rand.NewSource(2))
	keep1 := func(l []api.Kept, k api.Kept) []api.Kept {
		if k.Name != "" {
			return Name(l, k.Ino, k.Name, k.Is, k.Until)
		}
		return Page(l, k.Ino, k.Page, k.Data, k.Until)
	}
	for range 3000 {
		var l []api.Kept
		m := model{}
		for range r.Intn(9) {
			l = m.step(r, l)
		}
		some := func() api.Kept {
			if r.Intn(2) == 0 {
				return pg(r.Intn(3), r.Intn(3), "x", r.Intn(9))
			}
			return nm(r.Intn(3), []string{"a", "ab"}[r.Intn(2)], 4, r.Intn(9))
		}
		a, b := some(), some()
		if compare(a, b) != 0 && !same(keep1(keep1(l, a), b), keep1(keep1(l, b), a)) {
			t.Fatal(l, a, b)
		}
	}
}

// P23.4: what is let go as it is over is told to nobody from then on; all else is as it was.
func TestP234Over(t *testing.T) {
	r := rand.New(rand.NewSource(3))
	for range 500 {
		var l []api.Kept
		m := model{}
		for range 30 {
			l = m.step(r, l)
		}
		at := r.Intn(20)
		aged := Age(l, at)
		for later := at; later < at+25; later++ {
			for _, k := range l {
				if k.Name != "" {
					a, ok1 := GetName(l, k.Ino, k.Name, later)
					b, ok2 := GetName(aged, k.Ino, k.Name, later)
					if a != b || ok1 != ok2 {
						t.Fatal(k, at, later)
					}
					continue
				}
				a, ok1 := GetPage(l, k.Ino, k.Page, later)
				b, ok2 := GetPage(aged, k.Ino, k.Page, later)
				if !bytes.Equal(a, b) || ok1 != ok2 {
					t.Fatal(k, at, later)
				}
			}
		}
		for _, k := range aged {
			if k.Until <= at {
				t.Fatal("over, and kept", k)
			}
		}
	}
}
