package wire

import (
	"math"
	"math/rand"
	"reflect"
	"slices"
	"testing"

	"catacomb/api"
)

// msg is a message that its Kind tells from others.
func msg(kind int) api.Msg {
	return api.Msg{From: kind % 3, To: kind % 5, Kind: kind, Nums: []int{kind}, Data: []byte{1}}
}

func row(kinds ...int) []api.Msg {
	var l []api.Msg
	for _, k := range kinds {
		l = append(l, msg(k))
	}
	return l
}

func alike(a []api.Msg, b []api.Msg) bool {
	return slices.EqualFunc(a, b, func(x, y api.Msg) bool { return reflect.DeepEqual(x, y) })
}

func count(n int) []int {
	l := make([]int, n)
	for i := range l {
		l[i] = i
	}
	return l
}

// P5.1: fates, with room and without.
func TestP51Send(t *testing.T) {
	for i, x := range []struct {
		w    []api.Msg
		fate int
		want []api.Msg
	}{
		{row(1, 2), api.Pass, row(1, 2, 9)}, {row(1, 2), api.Twin, row(1, 2, 9, 9)}, {row(1, 2), api.Late, row(1, 9, 2)}, {row(1, 2), api.Lose, row(1, 2)},
		{row(1, 2), 0, row(1, 2)}, {row(1, 2), 5, row(1, 2)}, {row(1, 2), -1, row(1, 2)}, {nil, api.Late, row(9)}, {nil, api.Pass, row(9)}, {nil, api.Twin, row(9, 9)}, {nil, api.Lose, nil},
		{row(1), api.Late, row(9, 1)},
		{row(count(199)...), api.Twin, append(row(count(199)...), msg(9))}, {row(count(199)...), api.Pass, append(row(count(199)...), msg(9))},
		{row(count(198)...), api.Twin, append(row(count(198)...), msg(9), msg(9))}, {row(count(199)...), api.Late, append(row(count(198)...), msg(9), msg(198))},
		{row(count(200)...), api.Pass, row(count(200)...)}, {row(count(200)...), api.Twin, row(count(200)...)}, {row(count(200)...), api.Late, row(count(200)...)},
		{row(count(201)...), api.Pass, row(count(201)...)}, {row(count(203)...), api.Twin, row(count(203)...)}, {row(count(203)...), api.Late, row(count(203)...)},
	} {
		was := slices.Clone(x.w)
		if got := Send(x.w[:len(x.w):cap(x.w)], msg(9), x.fate); !alike(got, x.want) || !alike(x.w, was) {
			t.Errorf("%d: %v", i, got)
		}
	}
}

// P5.1: what is taken, and that what was handed in stays.
func TestP51Take(t *testing.T) {
	w := row(4, 5, 6)
	for i, want := range [][]api.Msg{row(5, 6), row(4, 6), row(4, 5)} {
		got, m, ok := Take(w, i)
		if !ok || !alike(got, want) || !reflect.DeepEqual(m, msg(4+i)) || !alike(w, row(4, 5, 6)) {
			t.Errorf("%d: %v, %v, %v", i, got, m, ok)
		}
	}
	for _, i := range []int{-1, 3, math.MaxInt, math.MinInt} {
		if got, m, ok := Take(w, i); ok || !alike(got, w) || !reflect.DeepEqual(m, api.Msg{}) {
			t.Errorf("%d: %v, %v", i, got, m)
		}
	}
}

// P5.1: places to somebody, and cuts.
func TestP51Sides(t *testing.T) {
	w := []api.Msg{{From: 1, To: 2}, {From: 2, To: 1}, {From: 3, To: 2}, {From: 1, To: 3}, {From: 1, To: 1}}
	for who, want := range map[int][]int{1: {1, 4}, 2: {0, 2}, 3: {3}, 4: nil, -1: nil} {
		if got := To(w, who); !slices.Equal(got, want) {
			t.Errorf("To %d: %v", who, got)
		}
	}
	for i, x := range []struct {
		side []int
		want []int
	}{{nil, []int{0, 1, 2, 3, 4}}, {[]int{1}, []int{2, 4}}, {[]int{1, 2}, []int{0, 1, 4}}, {[]int{3, 2, 1, 1}, []int{0, 1, 2, 3, 4}}, {[]int{3}, []int{0, 1, 4}}, {[]int{9}, []int{0, 1, 2, 3, 4}}} {
		var want []api.Msg
		for _, i := range x.want {
			want = append(want, w[i])
		}
		if got := Cut(w, x.side); !alike(got, want) {
			t.Errorf("%d: %v", i, got)
		}
	}
}

// P5.2: what is taken, and what is under way, is what was put there, each as often.
func TestP52None(t *testing.T) {
	r := rand.New(rand.NewSource(1))
	for range 50 {
		var w []api.Msg
		put, seen := map[int]int{}, map[int]int{}
		for k := range 400 {
			if r.Intn(3) == 0 {
				if v, m, ok := Take(w, r.Intn(len(w)+1)); ok {
					w = v
					seen[m.Kind]++
				}
				continue
			}
			fate := r.Intn(6)
			room := 200 - len(w)
			w = Send(w, msg(k), fate)
			n := map[int]int{api.Pass: min(1, room), api.Late: min(1, room), api.Twin: min(2, room)}[fate]
			if n > 0 {
				put[k] = n
			}
		}
		for _, m := range w {
			if !reflect.DeepEqual(m, msg(m.Kind)) {
				t.Fatal("another message", m)
			}
			seen[m.Kind]++
		}
		if !reflect.DeepEqual(put, seen) {
			t.Fatal(put, seen)
		}
	}
}

// P5.3: what is there stays in order, but for what is late.
func TestP53Order(t *testing.T) {
	r := rand.New(rand.NewSource(2))
	for range 200 {
		var w []api.Msg
		late := map[int]bool{}
		for k := range 100 {
			was := w
			switch r.Intn(4) {
			case 0:
				w, _, _ = Take(w, r.Intn(len(w)+1))
			case 1:
				w = Cut(w, []int{r.Intn(3), r.Intn(5)})
			default:
				fate := 1 + r.Intn(4)
				late[k] = fate == api.Late
				w = Send(w, msg(k), fate)
				if fate == api.Late && len(was) > 0 && (w[len(w)-1].Kind != was[len(was)-1].Kind || w[len(w)-2].Kind != k) {
					t.Fatal("overtakes another one")
				}
			}
			at := 0
			for _, m := range w { // what is left of what was there stands as it stood
				if m.Kind == k {
					continue
				}
				for at < len(was) && was[at].Kind != m.Kind {
					at++
				}
				if at == len(was) {
					t.Fatal("out of order")
				}
				at++
			}
		}
		last := -1
		for _, m := range w {
			if !late[m.Kind] {
				if m.Kind < last {
					t.Fatal("out of order", m.Kind, last)
				}
				last = m.Kind
			}
		}
	}
}

// P5.4: behind a cut nothing crosses; it is the same from either side, and once more.
func TestP54Sides(t *testing.T) {
	r := rand.New(rand.NewSource(3))
	for range 500 {
		var w []api.Msg
		for range r.Intn(30) {
			w = append(w, api.Msg{From: r.Intn(5), To: r.Intn(5), Kind: len(w)})
		}
		in := map[int]bool{}
		var side, other []int
		for i := range 5 {
			if r.Intn(2) == 0 {
				side, in[i] = append(side, i), true
			} else {
				other = append(other, i)
			}
		}
		got := Cut(w, side)
		var want []api.Msg
		for _, m := range w {
			if in[m.From] == in[m.To] {
				want = append(want, m)
			}
		}
		if !alike(got, want) || !alike(got, Cut(w, other)) || !alike(got, Cut(got, side)) {
			t.Fatal(w, side, got)
		}
	}
}
