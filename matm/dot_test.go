package matm_test

import (
	"math/rand"
	"slices"
	"testing"

	"carousel/api"
	"carousel/fix"
	"carousel/matm"
)

const (
	half = api.One / 2
	top  = api.Top
	low  = api.Low
)

type dotted struct {
	a, b []api.Fix
	want api.Fix
}

func holdDots(t *testing.T, l []dotted) {
	t.Helper()
	for _, c := range l {
		if got := matm.Dot(c.a, c.b); got != c.want {
			t.Errorf("P7.1: Dot(%v, %v): %d, want %d", c.a, c.b, got, c.want)
		}
		// In which order two are handed in, and in which order they are summed, does not matter.
		if got := matm.Dot(c.b, c.a); got != c.want {
			t.Errorf("P7.1: Dot(%v, %v): %d, want %d", c.b, c.a, got, c.want)
		}
		if n := min(len(c.a), len(c.b)); n > 1 {
			a, b := slices.Clone(c.a[:n]), slices.Clone(c.b[:n])
			slices.Reverse(a)
			slices.Reverse(b)
			if got := matm.Dot(a, b); got != c.want {
				t.Errorf("P7.1: Dot(%v, %v): %d, want %d", a, b, got, c.want)
			}
		}
	}
}

func TestDot(t *testing.T) {
	holdDots(t, []dotted{
		{whole(1, 2), whole(3, 4), 11 * api.One},
		{whole(1, -2, 3), whole(4, 5, -6), -24 * api.One},
		{whole(7), whole(-7), -49 * api.One},
		{[]api.Fix{half, half}, []api.Fix{half, -3 * half}, -half},
		{whole(1, 1, 1), []api.Fix{1, 2, -7}, -4},
		{whole(0, 0), []api.Fix{top, low}, 0},
	})
}

func TestDotOfUnlikeLengths(t *testing.T) {
	holdDots(t, []dotted{
		{nil, nil, 0}, {nil, []api.Fix{}, 0}, {[]api.Fix{}, []api.Fix{}, 0}, {nil, whole(1), 0}, {[]api.Fix{}, whole(1, 2), 0}, {nil, []api.Fix{top, top}, 0},
		{whole(1, 2, 3), whole(5), 5 * api.One}, {whole(1, 2, 3), whole(5, 6), 17 * api.One}, {[]api.Fix{api.One, low}, []api.Fix{3}, 3},
	})
	// What stands in the spare room of the shorter one does not count.
	if got := matm.Dot(whole(1, 2, 3)[:2], whole(1, 1, 1)); got != 3*api.One {
		t.Errorf("P7.1: Dot of a list with spare room: %d", got)
	}
}

func TestDotRoundsOnce(t *testing.T) {
	holdDots(t, []dotted{
		// One half of a part is rounded to the even one.
		{[]api.Fix{1}, []api.Fix{half}, 0}, {[]api.Fix{3}, []api.Fix{half}, 2}, {[]api.Fix{5}, []api.Fix{half}, 2}, {[]api.Fix{7}, []api.Fix{half}, 4},
		{[]api.Fix{-1}, []api.Fix{half}, 0}, {[]api.Fix{-3}, []api.Fix{half}, -2}, {[]api.Fix{-5}, []api.Fix{half}, -2}, {[]api.Fix{-7}, []api.Fix{half}, -4},
		// A little more, and a little less.
		{[]api.Fix{1, 1}, []api.Fix{half, 1}, 1}, {[]api.Fix{1, 1}, []api.Fix{half, -1}, 0}, {[]api.Fix{-1, -1}, []api.Fix{half, 1}, -1}, {[]api.Fix{-1, -1}, []api.Fix{half, -1}, 0},
		{[]api.Fix{5, 1}, []api.Fix{half, 1}, 3}, {[]api.Fix{3, 1}, []api.Fix{half, -1}, 1}, {[]api.Fix{-5, -1}, []api.Fix{half, 1}, -3}, {[]api.Fix{-3, -1}, []api.Fix{half, -1}, -1},
		// Halves that come to one, or to another half.
		{[]api.Fix{1, 1}, []api.Fix{half, half}, 1}, {[]api.Fix{1, 1, 1}, []api.Fix{half, half, half}, 2}, {[]api.Fix{3, 3}, []api.Fix{half, half}, 3}, {[]api.Fix{1, 1, 1, 1, 1}, []api.Fix{half, half, half, half, half}, 2},
		{[]api.Fix{-1, -1}, []api.Fix{half, half}, -1}, {[]api.Fix{-1, -1, -1}, []api.Fix{half, half, half}, -2}, {[]api.Fix{-3, -3}, []api.Fix{half, half}, -3}, {[]api.Fix{1, -1}, []api.Fix{half, half}, 0},
		// Quarters: each of them alone would be lost.
		{[]api.Fix{1, 1, 1, 1}, []api.Fix{half / 2, half / 2, half / 2, half / 2}, 1}, {[]api.Fix{1, 1, 1}, []api.Fix{half / 2, half / 2, half / 2}, 1}, {[]api.Fix{-1, -1, -1}, []api.Fix{half / 2, half / 2, half / 2}, -1},
	})
}

// Rounding each product would give another number.
func TestDotIsNoSumOfRoundedProducts(t *testing.T) {
	ones, halves := slices.Repeat([]api.Fix{1}, 100), slices.Repeat([]api.Fix{half}, 100)
	holdDots(t, []dotted{{ones, halves, 50}})
	var rounded api.Fix
	for i := range ones {
		rounded = fix.Add(rounded, fix.Mul(ones[i], halves[i]))
	}
	if rounded != 0 {
		t.Errorf("P7.1: the products, each rounded, come to %d", rounded)
	}
}

func TestDotHeld(t *testing.T) {
	holdDots(t, []dotted{
		{[]api.Fix{top}, []api.Fix{api.One}, top}, {[]api.Fix{top, 1}, whole(1, 1), top}, {[]api.Fix{top, -1}, whole(1, 1), top - 1},
		{[]api.Fix{low}, []api.Fix{api.One}, low}, {[]api.Fix{low, -1}, whole(1, 1), low}, {[]api.Fix{low, 1}, whole(1, 1), low + 1},
		{[]api.Fix{low}, []api.Fix{-api.One}, top}, {[]api.Fix{top}, []api.Fix{-api.One}, -top}, {[]api.Fix{top, -1}, whole(-1, 1), low}, {[]api.Fix{top, -2}, whole(-1, 1), low},
		// Half a part above Top, and half a part below Low.
		{[]api.Fix{top, 1}, []api.Fix{api.One, half}, top}, {[]api.Fix{top, -1}, []api.Fix{api.One, half}, top - 1}, {[]api.Fix{top, -3}, []api.Fix{api.One, half}, top - 1},
		{[]api.Fix{low, -1}, []api.Fix{api.One, half}, low}, {[]api.Fix{low, 1}, []api.Fix{api.One, half}, low}, {[]api.Fix{low, 3}, []api.Fix{api.One, half}, low + 2},
		{[]api.Fix{top}, []api.Fix{top}, top}, {[]api.Fix{low}, []api.Fix{low}, top}, {[]api.Fix{low}, []api.Fix{top}, low}, {[]api.Fix{low, top}, []api.Fix{low, low}, 1 << 31},
		// A sum on the way would be held, the whole is not.
		{[]api.Fix{top, top, low, low}, whole(1, 1, 1, 1), -2}, {[]api.Fix{top, top, -top}, whole(3, 3, 6), 0},
	})
}

// Two products of the least number are 2^127: no Wide. All sums here pass that, and come back or not.
func TestDotBeyondAWide(t *testing.T) {
	holdDots(t, []dotted{
		{[]api.Fix{low, low}, []api.Fix{low, low}, top}, {[]api.Fix{low, low, low}, []api.Fix{low, low, low}, top}, {[]api.Fix{low, low, low, low}, []api.Fix{low, low, low, low}, top},
		{[]api.Fix{low, low, low}, []api.Fix{top, top, top}, low}, {[]api.Fix{low, low, low, low, low}, []api.Fix{top, top, top, top, top}, low},
		// 2^127 and back to 2^64, of which 2^32 is left.
		{[]api.Fix{low, low, low, low, low}, []api.Fix{low, low, top, top, 2}, 0},
		{[]api.Fix{low, low, low, low}, []api.Fix{low, low, top, top}, 1 << 32},
		{[]api.Fix{low, low, low, low, 7}, []api.Fix{low, low, top, top, api.One}, 1<<32 + 7},
		{[]api.Fix{low, low, low, low, 1}, []api.Fix{low, low, top, top, half}, 1 << 32}, {[]api.Fix{low, low, low, low, 3}, []api.Fix{low, low, top, top, half}, 1<<32 + 2},
		{[]api.Fix{top, top, low, low, 2, 5}, []api.Fix{top, top, top, top, top, api.One}, 5},
	})
	for _, n := range []int{3, 4, 5, 8, 63, 64, 65, 4096, 100_000} {
		lows, tops := slices.Repeat([]api.Fix{low}, n), slices.Repeat([]api.Fix{top}, n)
		for _, c := range []dotted{{lows, lows, top}, {tops, tops, top}, {lows, tops, low}, {slices.Concat(lows, tops), slices.Concat(lows, lows), exactDot(slices.Concat(lows, tops), slices.Concat(lows, lows))}} {
			if got := matm.Dot(c.a, c.b); got != c.want {
				t.Errorf("P7.1: Dot of %d, %d and so on, %d numbers: %d, want %d", c.a[0], c.b[0], len(c.a), got, c.want)
			}
		}
	}
}

func TestDotExact(t *testing.T) {
	r := rand.New(rand.NewSource(7))
	for i := range int64(4000) {
		n, m := r.Intn(20), r.Intn(20)
		for _, c := range [][2][]api.Fix{
			{strewn(2*i, []int{n}).V, strewn(2*i+1, []int{m}).V},
			{small(2*i, []int{n}).V, small(2*i+1, []int{m}).V},
			{small(2*i, []int{n}).V, strewn(2*i+1, []int{n}).V},
		} {
			if got, wanted := matm.Dot(c[0], c[1]), exactDot(c[0], c[1]); got != wanted {
				t.Fatalf("P7.1: Dot(%v, %v): %d, want %d", c[0], c[1], got, wanted)
			}
		}
	}
}

// There and back: each great product is taken away again, in another order, and what is left is small.
func TestDotThereAndBack(t *testing.T) {
	r := rand.New(rand.NewSource(8))
	for i := range int64(300) {
		rest := small(i, []int{4}).V
		a, b := slices.Clone(rest), small(i+1, []int{4}).V
		wanted := exactDot(a, b)
		for range 40 {
			x, y := low+api.Fix(r.Intn(3)), low+1+api.Fix(r.Intn(3))
			a, b = append(a, x, x), append(b, y, -y)
		}
		r.Shuffle(len(a), func(i, j int) {
			a[i], a[j] = a[j], a[i]
			b[i], b[j] = b[j], b[i]
		})
		if got := matm.Dot(a, b); got != wanted {
			t.Fatalf("P7.1: Dot(%v, %v): %d, want %d", a, b, got, wanted)
		}
	}
}
