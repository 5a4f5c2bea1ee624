package name

import (
	"math/rand"
	"slices"
	"strings"
	"testing"

	"catacomb/api"
)

// P6.1: which texts are names.
func TestP61Right(t *testing.T) {
	for s, right := range map[string]bool{
		"": false, "a": true, ".": false, "..": false, "...": true, ".a": true, "a.": true, "a/b": false, "/": false, "a\x1f": false, "\x00": false, " ": true, "\x7f": true,
		"\xff\xfe": true, "\xc3": true, "ü": true, strings.Repeat("x", 32): true, strings.Repeat("x", 33): false, strings.Repeat("ü", 16): true, strings.Repeat("ü", 17): false,
		"\n": false, "a\nb": false, "\xe2\x82/": false, "\\": true,
	} {
		if Right(s) != right {
			t.Errorf("%q: %v", s, !right)
		}
	}
}

// P6.1: paths, and what is none.
func TestP61Split(t *testing.T) {
	for path, names := range map[string][]string{
		"/": {}, "/a": {"a"}, "/a/b": {"a", "b"}, "/ /\xff": {" ", "\xff"}, strings.Repeat("/x", 12): slices.Repeat([]string{"x"}, 12),
		"": nil, "a": nil, "a/b": nil, "//": nil, "/a/": nil, "//a": nil, "/a//b": nil, "/.": nil, "/a/..": nil, strings.Repeat("/x", 13): nil,
		"/" + strings.Repeat("x", 33): nil, "/a\x01": nil, " /a": nil,
	} {
		got, err := Split(path)
		if (err == api.OK) != (names != nil) || err != api.OK && err != api.ErrName || !slices.Equal(got, names) {
			t.Errorf("%q: %q, %d", path, got, err)
		}
	}
}

// P6.1: Join of any texts, Last, and Above of what is no path.
func TestP61Others(t *testing.T) {
	for want, names := range map[string][]string{"/": nil, "/a": {"a"}, "/a/b": {"a", "b"}, "//": {"", ""}, "/a/b/": {"a/b", ""}} {
		if got := Join(names); got != want {
			t.Errorf("%q: %q", names, got)
		}
	}
	if Join([]string{""}) != "/" {
		t.Error("an empty text")
	}
	for path, x := range map[string][2]string{"/a/b": {"b", "/a"}, "/a": {"a", "/"}, "/": {}, "": {}, "/a/": {}, "a": {}} {
		last, to, err := Last(path)
		if last != x[0] || to != x[1] || (err == api.OK) != (last != "") || err != api.OK && err != api.ErrName {
			t.Errorf("%q: %q, %q, %d", path, last, to, err)
		}
	}
	for _, x := range []struct {
		a, b  string
		above bool
	}{{"/a", "/a/b", true}, {"/a", "/ab", false}, {"/", "/a", true}, {"/", "/", true}, {"/a", "/", false}, {"/a/b", "/a", false}, {"/a/", "/a/b", false}, {"/a", "/a/", false}, {"", "/a", false}, {"", "", false}, {"/a", "/a", true}, {"/b", "/a/b", false}} {
		if Above(x.a, x.b) != x.above {
			t.Errorf("Above %q, %q", x.a, x.b)
		}
	}
}

func someName(r *rand.Rand) string {
	return []string{"a", "b", "ab", "...", "\xff", "x y"}[r.Intn(6)]
}

func someText(r *rand.Rand) string {
	return []string{"", "/", ".", "..", "a/b", "\x1f", strings.Repeat("x", 33)}[r.Intn(7)]
}

func somePath(r *rand.Rand, most int) string {
	var l []string
	for range r.Intn(most + 1) {
		l = append(l, someName(r))
	}
	return Join(l)
}

// P6.2: names that are joined are split as they were, all else is not; what is split is joined as it was.
func TestP62Back(t *testing.T) {
	r := rand.New(rand.NewSource(1))
	for range 5000 {
		var l []string
		names := true
		for range r.Intn(15) {
			if r.Intn(15) == 0 {
				l, names = append(l, someText(r)), false
			} else {
				l = append(l, someName(r))
			}
		}
		got, err := Split(Join(l))
		if names && len(l) <= 12 {
			if err != api.OK || !slices.Equal(got, l) {
				t.Fatalf("%q: %q, %d", l, got, err)
			}
		} else if err == api.OK && slices.Equal(got, l) {
			t.Fatalf("%q is a path's names", l)
		}
		if err == api.OK && Join(got) != Join(l) {
			t.Fatalf("%q is joined otherwise", got)
		}
	}
}

// P6.3: Above is an order.
func TestP63Order(t *testing.T) {
	r := rand.New(rand.NewSource(2))
	for range 20000 {
		a, b, c := somePath(r, 3), somePath(r, 3), somePath(r, 4)
		if !Above(a, a) || !Above("/", a) {
			t.Fatalf("%q", a)
		}
		if Above(a, b) && Above(b, a) != (a == b) {
			t.Fatalf("%q, %q", a, b)
		}
		if Above(a, b) && Above(b, c) && !Above(a, c) {
			t.Fatalf("%q, %q, %q", a, b, c)
		}
		if Above(a, c) && Above(b, c) && !Above(a, b) && !Above(b, a) {
			t.Fatalf("%q, %q above %q", a, b, c)
		}
		if want := a == "/" || a == b || strings.HasPrefix(b, a+"/"); Above(a, b) != want {
			t.Fatalf("%q, %q: %v", a, b, !want)
		}
	}
}

// P6.4: a path's last name, behind the path to it, is the path.
func TestP64Last(t *testing.T) {
	r := rand.New(rand.NewSource(3))
	for range 3000 {
		p := somePath(r, 12)
		last, to, err := Last(p)
		if p == "/" {
			if err != api.ErrName {
				t.Fatal(err)
			}
			continue
		}
		names, err2 := Split(to)
		if err != api.OK || err2 != api.OK || Join(append(names, last)) != p || !Above(to, p) || to == p {
			t.Fatalf("%q: %q, %q", p, last, to)
		}
	}
}

// P6.5: any bytes but those that may not stand there make a name.
func TestP65Named(t *testing.T) {
	for _, s := range []string{"abc", "ü1", "\xff\x80z"} {
		for at := range len(s) {
			for c := range 256 {
				b := []byte(s)
				b[at] = byte(c)
				if want := c >= 32 && c != '/'; Right(string(b)) != want {
					t.Errorf("%q: %v", b, !want)
				}
			}
		}
	}
}
