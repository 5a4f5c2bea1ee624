package sum

import (
	"hash/crc32"
	"math/rand"
	"slices"
	"testing"
)

func some(r *rand.Rand, n int) []byte {
	b := make([]byte, n)
	r.Read(b)
	return b
}

// P2.1: the examples, and the sum by another hand.
func TestP21Of(t *testing.T) {
	if Of([]byte("123456789")) != 3808858755 || Of(nil) != 0 {
		t.Error(Of([]byte("123456789")), Of(nil))
	}
	r := rand.New(rand.NewSource(1))
	table := crc32.MakeTable(crc32.Castagnoli)
	for n := range 200 {
		if b := some(r, n); Of(b) != int(crc32.Checksum(b, table)) {
			t.Errorf("%v: %d", b, Of(b))
		}
	}
}

// P2.1: blocks of 16 bytes, the last one shorter, none of nothing.
func TestP21Blocks(t *testing.T) {
	r := rand.New(rand.NewSource(2))
	for n := range 70 {
		b := some(r, n)
		var want []int
		for c := range slices.Chunk(b, 16) {
			want = append(want, Of(c))
		}
		if !slices.Equal(Blocks(b), want) {
			t.Errorf("%d bytes: %v", n, Blocks(b))
		}
	}
}

// P2.1: Check tells the first place that is wrong, of sums that are too few, too many, or others.
func TestP21Check(t *testing.T) {
	b := some(rand.New(rand.NewSource(3)), 40)
	s := Blocks(b)
	for _, x := range []struct {
		data []byte
		sums []int
		at   int
	}{
		{b, s, -1}, {nil, nil, -1}, {b, nil, 0}, {b, s[:2], 2}, {b, append(slices.Clone(s), 0), 3}, {nil, []int{0}, 0},
		{b, []int{s[0], s[1] + 1, s[2] + 1}, 1}, {b, []int{s[0], s[2]}, 1}, {b, []int{s[0], s[1], s[2] + 1<<32}, 2}, {b, []int{s[0], -1, s[2]}, 1},
	} {
		if got := Check(x.data, x.sums); got != x.at {
			t.Errorf("Check of %d bytes, %v: %d, not %d", len(x.data), x.sums, got, x.at)
		}
	}
}

// P2.2: what is unlike within four neighbours has another sum.
func TestP22Bursts(t *testing.T) {
	r := rand.New(rand.NewSource(4))
	for range 5000 {
		b := some(r, 1+r.Intn(60))
		c := slices.Clone(b)
		at := r.Intn(len(c))
		r.Read(c[at:min(at+4, len(c))])
		if (Of(b) == Of(c)) != slices.Equal(b, c) {
			t.Fatalf("%v and %v: %d", b, c, Of(b))
		}
	}
}

// P2.3: sums of three rows, turned by one another, are the sum of the rows, turned by one another.
func TestP23Even(t *testing.T) {
	r := rand.New(rand.NewSource(5))
	for n := range 100 {
		a, b, c := some(r, n), some(r, n), some(r, n)
		d := make([]byte, n)
		for i := range d {
			d[i] = a[i] ^ b[i] ^ c[i]
		}
		if Of(d) != Of(a)^Of(b)^Of(c) {
			t.Fatal(n)
		}
	}
}

// P2.4: blocks' sums fit; of one byte that was turned its block is told.
func TestP24Blocks(t *testing.T) {
	r := rand.New(rand.NewSource(6))
	for n := 1; n < 100; n++ {
		b := some(r, n)
		s := Blocks(b)
		if Check(b, s) != -1 {
			t.Fatal(n)
		}
		for at := range b {
			b[at] ^= byte(1 + r.Intn(255))
			if Check(b, s) != at/16 {
				t.Fatal(n, at)
			}
			b[at] = b[at] ^ 1
			s = Blocks(b)
		}
	}
}

// P2.5: bytes with their own sum behind have one sum.
func TestP25Own(t *testing.T) {
	r := rand.New(rand.NewSource(7))
	for n := range 100 {
		b := some(r, n)
		s := Of(b)
		if got := Of(append(b, byte(s), byte(s>>8), byte(s>>16), byte(s>>24))); got != 1214729159 {
			t.Fatal(n, got)
		}
	}
}
