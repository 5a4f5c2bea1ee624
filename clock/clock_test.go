package clock

import (
	"math"
	"math/rand"
	"testing"
)

const top = 1 << 41

func someTime(r *rand.Rand) int { return int(r.Uint64() >> (23 + r.Intn(41))) }

// mayShow: may it take a clock so much time to show w?
func mayShow(real int, w int) bool { return Least(real) <= w && w <= Most(real) }

// P3.1: the examples, the edges, and what is taken as 0 or the greatest time.
func TestP31Bounds(t *testing.T) {
	for _, x := range [][3]int{
		{0, 0, 0}, {1, 0, 2}, {2, 1, 3}, {999, 998, 1000}, {1000, 999, 1001}, {1001, 999, 1003}, {2000, 1998, 2002},
		{-5, 0, 0}, {math.MinInt, 0, 0}, {top, top - 2199023256, top + 2199023256}, {top + 1, top - 2199023256, top + 2199023256}, {math.MaxInt, top - 2199023256, top + 2199023256},
	} {
		if Least(x[0]) != x[1] || Most(x[0]) != x[2] {
			t.Errorf("%d: %d, %d", x[0], Least(x[0]), Most(x[0]))
		}
	}
}

// slowWait and slowUse are C2 by its words, of small numbers.
func slowWait(n int) int {
	for w := 0; ; w++ {
		all := true
		for real := range 2*n + 3000 {
			if mayShow(real, w) && Least(real) < n {
				all = false
				break
			}
		}
		if all {
			return w
		}
	}
}

func slowUse(n int) int {
	for u := n + 5; u >= 0; u-- {
		all := true
		for real := range 2*n + 3000 {
			if mayShow(real, u) && Most(real) > n {
				all = false
				break
			}
		}
		if all {
			return u
		}
	}
	return -1
}

// P3.1: Wait and Use, by their words.
func TestP31Wait(t *testing.T) {
	for _, x := range [][2]int{{0, 0}, {1, 3}, {-7, 0}, {math.MinInt, 0}} {
		if Wait(x[0]) != x[1] {
			t.Errorf("Wait(%d) = %d", x[0], Wait(x[0]))
		}
	}
	for _, x := range [][2]int{{0, -1}, {-7, -1}, {1, -1}, {2, 0}, {100, 98}} {
		if Use(x[0]) != x[1] {
			t.Errorf("Use(%d) = %d", x[0], Use(x[0]))
		}
	}
	for n := range 1500 {
		if n > 30 && n < 980 && n%97 != 0 || n > 1020 && n%97 != 0 {
			continue
		}
		if Wait(n) != slowWait(n) || Use(n) != slowUse(n) {
			t.Errorf("%d: Wait %d, not %d; Use %d, not %d", n, Wait(n), slowWait(n), Use(n), slowUse(n))
		}
	}
	if Wait(1<<40) != Wait(math.MaxInt) || Use(1<<40) != Use(math.MaxInt) || Wait(1<<40) != Wait(1<<40+1) || Wait(1<<40) <= Wait(1<<40-2000) {
		t.Error("above the greatest time")
	}
}

// P3.1: which clocks are right: order, ranges, and both bounds of each pair.
func TestP31Right(t *testing.T) {
	for i, x := range []struct {
		reals, shown []int
		right        bool
	}{
		{nil, nil, true}, {[]int{0}, nil, false}, {nil, []int{0}, false}, {[]int{5}, []int{1 << 42}, true}, {[]int{5}, []int{1<<42 + 1}, false}, {[]int{5}, []int{-1}, false},
		{[]int{top}, []int{0}, true}, {[]int{top + 1}, []int{0}, false}, {[]int{-1}, []int{0}, false},
		{[]int{5, 5}, []int{7, 7}, true}, {[]int{5, 5}, []int{7, 8}, false}, {[]int{6, 5}, []int{7, 7}, false}, {[]int{6, 5}, []int{7, 6}, false},
		{[]int{0, 1000}, []int{3, 1002}, true}, {[]int{0, 1000}, []int{3, 1001}, false}, {[]int{0, 1000}, []int{3, 1004}, true}, {[]int{0, 1000}, []int{3, 1005}, false},
		{[]int{0, 1, 2}, []int{0, 2, 4}, false}, {[]int{0, 1, 2}, []int{0, 2, 3}, true}, {[]int{0, 1, 2}, []int{0, 0, 0}, false}, {[]int{0, 1, 2}, []int{0, 0, 1}, true},
		{[]int{0, 1, 2}, []int{9, 8, 9}, false},
	} {
		if Right(x.reals, x.shown) != x.right {
			t.Errorf("%d: %v, %v: %v", i, x.reals, x.shown, !x.right)
		}
	}
}

// P3.2: bounds are about the time, never fall, and add up.
func TestP32Bounds(t *testing.T) {
	r := rand.New(rand.NewSource(1))
	for range 5000 {
		a, b := someTime(r)/2, someTime(r)/2
		if Least(a) > a || Most(a) < a || Least(a+1) < Least(a) || Most(a+1) < Most(a) {
			t.Fatal(a, Least(a), Most(a))
		}
		if Least(a+b) < Least(a)+Least(b) || Most(a+b) > Most(a)+Most(b) {
			t.Fatal(a, b)
		}
	}
}

// spans are the least and the greatest time in which a clock may show w.
func spans(w int) (int, int) {
	low, high := 0, top
	for low < high {
		if mid := (low + high) / 2; Most(mid) >= w {
			high = mid
		} else {
			low = mid + 1
		}
	}
	first := low
	low, high = 0, top
	for low < high {
		if mid := (low + high + 1) / 2; Least(mid) <= w {
			low = mid
		} else {
			high = mid - 1
		}
	}
	return first, low
}

// P3.3: who waits, waits long enough, and who uses, no longer; of one less, or one more, not so.
func TestP33Waited(t *testing.T) {
	r := rand.New(rand.NewSource(2))
	for range 3000 {
		n := someTime(r) / 2
		w, u := Wait(n), Use(n)
		if first, _ := spans(w); Least(first) < n {
			t.Fatalf("Wait(%d) = %d is too little", n, w)
		}
		if w > 0 {
			if first, _ := spans(w - 1); Least(first) >= n {
				t.Fatalf("Wait(%d) = %d is too much", n, w)
			}
		}
		if u >= 0 {
			if _, last := spans(u); Most(last) > n {
				t.Fatalf("Use(%d) = %d is too much", n, u)
			}
		}
		if _, last := spans(u + 1); Most(last) <= n {
			t.Fatalf("Use(%d) = %d is too little", n, u)
		}
	}
}

// P3.3: two right clocks, read at the same times.
func TestP33Clocks(t *testing.T) {
	r := rand.New(rand.NewSource(3))
	for range 2000 {
		n := r.Intn(3000)
		reals := []int{r.Intn(50), 0}
		reals[1] = reals[0] + r.Intn(4000)
		went := reals[1] - reals[0]
		a := []int{4, 4 + Least(went) + r.Intn(Most(went)-Least(went)+1)}
		b := []int{9, 9 + Least(went) + r.Intn(Most(went)-Least(went)+1)}
		if !Right(reals, a) || !Right(reals, b) {
			t.Fatal("not right")
		}
		if a[1]-a[0] >= Wait(n) && b[1]-b[0] < n || a[1]-a[0] <= Use(n) && b[1]-b[0] > n {
			t.Fatal(n, reals, a, b)
		}
	}
}

// P3.4: Use is less, Wait is more; who uses no more than Use is through ahead of any other.
func TestP34Order(t *testing.T) {
	r := rand.New(rand.NewSource(4))
	if Use(0) > 0 || Wait(0) != 0 {
		t.Fatal(Use(0), Wait(0))
	}
	for i := range 3000 {
		n := 1 + i
		if i > 1500 {
			n = 1 + someTime(r)/2
		}
		n = min(n, 1<<40)
		if Use(n) >= n || Wait(n) <= n || Wait(n+1) < Wait(n) || Use(n+1) < Use(n) {
			t.Fatal(n, Use(n), Wait(n))
		}
		if u := Use(n); u >= 0 {
			if _, last := spans(u); Most(last) > n {
				t.Fatal(n, u, last)
			}
		}
	}
}
