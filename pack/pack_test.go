package pack

import (
	"bytes"
	"math"
	"math/rand"
	"reflect"
	"slices"
	"testing"

	"catacomb/api"
)

// slow is A1 by its words: halves and rests of a number without a sign.
func slow(n int) []byte {
	u := uint64(2) * uint64(n)
	if n < 0 {
		u = -u - 1
	}
	var b []byte
	for u > 127 {
		b = append(b, byte(u%128+128))
		u /= 128
	}
	return append(b, byte(u))
}

func someInt(r *rand.Rand) int {
	switch r.Intn(6) {
	case 0:
		return []int{math.MaxInt, math.MinInt, 0, -1, 1, 63, 64, -64, -65, 8191, 8192}[r.Intn(11)]
	case 1:
		return r.Intn(7) - 3
	}
	return int(r.Uint64() >> r.Intn(64))
}

func someStr(r *rand.Rand) string {
	b := make([]byte, r.Intn(4)*r.Intn(60))
	r.Read(b)
	return string(b)
}

func someInts(r *rand.Rand) []int {
	l := make([]int, r.Intn(5))
	for i := range l {
		l[i] = someInt(r)
	}
	return l
}

func someOp(r *rand.Rand) api.Op {
	return api.Op{Kind: someInt(r), Client: someInt(r), Path: someStr(r), To: someStr(r), N: someInt(r), M: someInt(r), Handle: someInt(r), Data: []byte(someStr(r))}
}

func someAns(r *rand.Rand) api.Ans {
	a := api.Ans{Err: api.Errno(someInt(r)), Ino: someInt(r), Kind: someInt(r), N: someInt(r), M: someInt(r), Data: []byte(someStr(r))}
	for range r.Intn(4) {
		a.Names = append(a.Names, someStr(r))
	}
	return a
}

// P1.1: Int's bytes, of the examples and of numbers of all sizes.
func TestP11Int(t *testing.T) {
	for n, b := range map[int][]byte{0: {0}, -1: {1}, 1: {2}, 64: {128, 1}, -64: {127}, 63: {126}} {
		if !bytes.Equal(Int(n), b) {
			t.Errorf("Int(%d) = %v", n, Int(n))
		}
	}
	r := rand.New(rand.NewSource(1))
	for range 2000 {
		if n := someInt(r); !bytes.Equal(Int(n), slow(n)) {
			t.Errorf("Int(%d) = %v, not %v", n, Int(n), slow(n))
		}
	}
}

// P1.1: texts, rows, and what stands behind one another.
func TestP11Rows(t *testing.T) {
	if !bytes.Equal(Str("ab"), []byte{4, 97, 98}) || !bytes.Equal(Str(""), []byte{0}) {
		t.Error("Str", Str("ab"), Str(""))
	}
	if !bytes.Equal(Ints([]int{-1, 64}), []byte{4, 1, 128, 1}) || !bytes.Equal(Ints(nil), []byte{0}) {
		t.Error("Ints")
	}
	if b := Op(api.Op{Kind: 1, Client: 2, Path: "p", To: "t", N: 3, M: 4, Handle: 5, Data: []byte{6}}); !bytes.Equal(b, []byte{2, 4, 2, 'p', 2, 't', 6, 8, 10, 2, 6}) {
		t.Error("Op", b)
	}
	if b := Ans(api.Ans{Err: 1, Ino: 2, Kind: 3, N: 4, M: 5, Names: []string{"", "n"}, Data: []byte{6}}); !bytes.Equal(b, []byte{2, 4, 6, 8, 10, 4, 0, 2, 'n', 2, 6}) {
		t.Error("Ans", b)
	}
}

// P1.1: errors of what is no number, text or row, with zeros beside them.
func TestP11Wrong(t *testing.T) {
	high := bytes.Repeat([]byte{255}, 9)
	for _, x := range []struct {
		b   []byte
		err api.Errno
	}{
		{nil, api.ErrEnd}, {[]byte{128}, api.ErrEnd}, {high, api.ErrEnd},
		{[]byte{128, 0}, api.ErrForm}, {[]byte{129, 128, 0, 5}, api.ErrForm}, {append(slices.Clone(high), 2), api.ErrForm},
		{append(slices.Clone(high), 128), api.ErrForm}, {append(slices.Clone(high), 255, 255), api.ErrForm}, {append(slices.Clone(high), 0), api.ErrForm},
	} {
		n, rest, err := ReadInt(x.b)
		if n != 0 || len(rest) != 0 || err != x.err {
			t.Errorf("ReadInt(%v) = %d, %v, %d", x.b, n, rest, err)
		}
		if s, rest, err := ReadStr(x.b); s != "" || len(rest) != 0 || err != x.err {
			t.Errorf("ReadStr(%v) = %q, %v, %d", x.b, s, rest, err)
		}
		if l, rest, err := ReadInts(x.b); len(l)+len(rest) != 0 || err != x.err {
			t.Errorf("ReadInts(%v) = %v, %v, %d", x.b, l, rest, err)
		}
	}
	for _, x := range []struct {
		b         []byte
		text, row api.Errno
	}{
		{[]byte{1, 2, 3}, api.ErrForm, api.ErrForm}, {[]byte{4, 2}, api.ErrEnd, api.ErrEnd},
		{[]byte{4, 2, 128}, api.OK, api.ErrEnd}, {[]byte{4, 128, 0, 1}, api.OK, api.ErrForm}, {Int(math.MaxInt), api.ErrEnd, api.ErrEnd},
	} {
		if _, _, err := ReadStr(x.b); err != x.text {
			t.Errorf("ReadStr(%v): %d", x.b, err)
		}
		if l, rest, err := ReadInts(x.b); err != x.row || len(l)+len(rest) != 0 {
			t.Errorf("ReadInts(%v): %v, %v, %d", x.b, l, rest, err)
		}
	}
	for _, x := range []struct {
		b   []byte
		err api.Errno
	}{{[]byte{0, 0, 0, 0, 0, 1, 0}, api.ErrForm}, {[]byte{0, 0, 0, 0, 0, 8, 0}, api.ErrEnd}, {[]byte{0, 0, 0, 0, 0, 2, 1, 0}, api.ErrForm}, {[]byte{0, 128, 0}, api.ErrForm}} {
		if a, err := ReadAns(x.b); err != x.err || !reflect.DeepEqual(a, api.Ans{}) {
			t.Errorf("ReadAns(%v) = %v, %d", x.b, a, err)
		}
	}
	if o, err := ReadOp([]byte{0, 0, 1, 0, 0, 0, 0, 0}); err != api.ErrForm || !reflect.DeepEqual(o, api.Op{}) {
		t.Errorf("ReadOp: %v, %d", o, err)
	}
}

// P1.2: what was packed is read, whatever stands behind it.
func TestP12Back(t *testing.T) {
	r := rand.New(rand.NewSource(2))
	for range 1000 {
		n, s, l, tail := someInt(r), someStr(r), someInts(r), []byte(someStr(r))
		if m, rest, err := ReadInt(append(Int(n), tail...)); m != n || !bytes.Equal(rest, tail) || err != api.OK {
			t.Fatalf("ReadInt of %d: %d, %v, %d", n, m, rest, err)
		}
		if m, rest, err := ReadStr(append(Str(s), tail...)); m != s || !bytes.Equal(rest, tail) || err != api.OK {
			t.Fatalf("ReadStr of %q: %q, %v, %d", s, m, rest, err)
		}
		if m, rest, err := ReadInts(append(Ints(l), tail...)); !slices.Equal(m, l) || !bytes.Equal(rest, tail) || err != api.OK {
			t.Fatalf("ReadInts of %v: %v, %v, %d", l, m, rest, err)
		}
		o, a := someOp(r), someAns(r)
		if p, err := ReadOp(Op(o)); err != api.OK || !reflect.DeepEqual(o, p) {
			t.Fatalf("ReadOp of %v: %v, %d", o, p, err)
		}
		if b, err := ReadAns(Ans(a)); err != api.OK || !reflect.DeepEqual(a, b) {
			t.Fatalf("ReadAns of %v: %v, %d", a, b, err)
		}
	}
}

// P1.2: what is read was packed as just these bytes.
func TestP12Just(t *testing.T) {
	r := rand.New(rand.NewSource(3))
	for range 20000 {
		b := make([]byte, r.Intn(14))
		for i := range b {
			b[i] = []byte{0, 1, 2, 4, 127, 128, 129, 255}[r.Intn(8)]
		}
		was := slices.Clone(b)
		if n, rest, err := ReadInt(b); err == api.OK && !bytes.Equal(append(Int(n), rest...), b) {
			t.Fatalf("ReadInt(%v) = %d", b, n)
		}
		if s, rest, err := ReadStr(b); err == api.OK && !bytes.Equal(append(Str(s), rest...), b) {
			t.Fatalf("ReadStr(%v) = %q", b, s)
		}
		if l, rest, err := ReadInts(b); err == api.OK && !bytes.Equal(append(Ints(l), rest...), b) {
			t.Fatalf("ReadInts(%v) = %v", b, l)
		}
		if o, err := ReadOp(b); err == api.OK && !bytes.Equal(Op(o), b) {
			t.Fatalf("ReadOp(%v) = %v", b, o)
		}
		if a, err := ReadAns(b); err == api.OK && !bytes.Equal(Ans(a), b) {
			t.Fatalf("ReadAns(%v) = %v", b, a)
		}
		if !bytes.Equal(b, was) {
			t.Fatal("bytes that were handed in are changed")
		}
	}
}

// P1.3: what is cut off ends; a byte too many has no form.
func TestP13Cut(t *testing.T) {
	r := rand.New(rand.NewSource(4))
	for range 300 {
		o, a := Op(someOp(r)), Ans(someAns(r))
		n, s, l := Int(someInt(r)), Str(someStr(r)), Ints(someInts(r))
		for i := range n {
			if _, _, err := ReadInt(n[:i]); err != api.ErrEnd {
				t.Fatalf("ReadInt(%v): %d", n[:i], err)
			}
		}
		for i := range s {
			if _, _, err := ReadStr(s[:i]); err != api.ErrEnd {
				t.Fatalf("ReadStr(%v): %d", s[:i], err)
			}
		}
		for i := range l {
			if _, _, err := ReadInts(l[:i]); err != api.ErrEnd {
				t.Fatalf("ReadInts(%v): %d", l[:i], err)
			}
		}
		for i := range o {
			if _, err := ReadOp(o[:i]); err != api.ErrEnd {
				t.Fatalf("ReadOp(%v): %d", o[:i], err)
			}
		}
		for i := range a {
			if _, err := ReadAns(a[:i]); err != api.ErrEnd {
				t.Fatalf("ReadAns(%v): %d", a[:i], err)
			}
		}
		if _, err := ReadOp(append(o, byte(r.Intn(256)))); err != api.ErrForm {
			t.Fatalf("ReadOp of one more: %d", err)
		}
		if _, err := ReadAns(append(a, byte(r.Intn(256)))); err != api.ErrForm {
			t.Fatalf("ReadAns of one more: %d", err)
		}
	}
}

// P1.4: each field, changed alone, changes the bytes; so does what goes from one text to the next one.
func TestP14Unlike(t *testing.T) {
	r := rand.New(rand.NewSource(5))
	for range 200 {
		o, a := someOp(r), someAns(r)
		for i := range 8 {
			p := o
			f := reflect.ValueOf(&p).Elem().Field(i)
			switch f.Kind() {
			case reflect.Int:
				f.SetInt(f.Int() + 1)
			case reflect.String:
				f.SetString(f.String() + "x")
			default:
				f.SetBytes(append(slices.Clone(f.Bytes()), 0))
			}
			if bytes.Equal(Op(o), Op(p)) {
				t.Fatalf("field %d of an operation is not told", i)
			}
		}
		for i := range 7 {
			b := a
			f := reflect.ValueOf(&b).Elem().Field(i)
			switch {
			case f.Kind() == reflect.Int:
				f.SetInt(f.Int() + 1)
			case i == 5:
				b.Names = append(slices.Clone(a.Names), "")
			default:
				f.SetBytes(append(slices.Clone(f.Bytes()), 0))
			}
			if bytes.Equal(Ans(a), Ans(b)) {
				t.Fatalf("field %d of an answer is not told", i)
			}
		}
	}
	if bytes.Equal(Op(api.Op{Path: "ab"}), Op(api.Op{Path: "a", To: "b"})) || bytes.Equal(Ans(api.Ans{Names: []string{"ab"}}), Ans(api.Ans{Names: []string{"a", "b"}})) {
		t.Error("texts run into one another")
	}
}
