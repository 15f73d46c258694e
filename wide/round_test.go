package wide_test

import (
	"math"
	"testing"

	"carousel/api"
	"carousel/fix"
	"carousel/wide"
)

type shifted struct {
	a    api.Wide
	n    int
	want api.Wide
}

func holdShifts(t *testing.T, l []shifted) {
	t.Helper()
	for _, c := range l {
		if got := wide.Shift(c.a, c.n); got != c.want {
			t.Errorf("P2.1: Shift(%v, %d): %v, want %v", c.a, c.n, got, c.want)
		}
	}
}

func TestShift(t *testing.T) {
	of := wide.Of
	holdShifts(t, []shifted{
		{of(3), 1, of(2)}, {of(5), 1, of(2)}, {of(1), 1, of(0)}, {of(7), 1, of(4)}, {of(6), 2, of(2)}, {of(10), 2, of(2)}, {of(7), 2, of(2)}, {of(9), 2, of(2)}, {of(11), 2, of(3)},
		{of(-3), 1, of(-2)}, {of(-5), 1, of(-2)}, {of(-1), 1, of(0)}, {of(-7), 1, of(-4)}, {of(-6), 2, of(-2)}, {of(-10), 2, of(-2)}, {of(-7), 2, of(-2)}, {of(-9), 2, of(-2)}, {of(-11), 2, of(-3)},
		{of(0), 1, of(0)}, {of(0), 126, of(0)}, {of(8), 3, of(1)}, {of(-8), 3, of(-1)}, {of(1), 126, of(0)}, {of(-1), 126, of(0)},
	})
}

// Where a word ends: half of one, less than it, more than it.
func TestShiftAcrossTheWords(t *testing.T) {
	of := wide.Of
	holdShifts(t, []shifted{
		{api.Wide{Lo: 1 << 63}, 64, of(0)}, {api.Wide{Lo: 1<<63 + 1}, 64, of(1)}, {api.Wide{Lo: 1<<63 - 1}, 64, of(0)},
		{api.Wide{Hi: 1, Lo: 1 << 63}, 64, of(2)}, {api.Wide{Hi: 2, Lo: 1 << 63}, 64, of(2)}, {api.Wide{Hi: -1, Lo: 1 << 63}, 64, of(0)}, {api.Wide{Hi: -2, Lo: 1 << 63}, 64, of(-2)},
		{api.Wide{Hi: 1}, 63, of(2)}, {api.Wide{Hi: 1, Lo: 1 << 62}, 63, of(2)}, {api.Wide{Hi: 1, Lo: 3 << 62}, 63, of(4)},
		{api.Wide{Hi: 1}, 65, of(0)}, {api.Wide{Hi: 1, Lo: 1}, 65, of(1)}, {api.Wide{Hi: 3}, 65, of(2)}, {api.Wide{Hi: 5}, 65, of(2)}, {api.Wide{Hi: 4, Lo: math.MaxUint64}, 65, of(2)},
		{api.Wide{Hi: -1}, 65, of(0)}, {api.Wide{Hi: -1, Lo: math.MaxUint64}, 65, of(0)}, {api.Wide{Hi: -2, Lo: math.MaxUint64}, 65, of(-1)}, {api.Wide{Hi: -3}, 65, of(-2)},
		// Rounding carries into Hi.
		{api.Wide{Hi: 1, Lo: math.MaxUint64}, 1, api.Wide{Hi: 1}}, {api.Wide{Hi: -1, Lo: math.MaxUint64}, 1, api.Wide{}},
	})
}

func TestShiftAtTheBounds(t *testing.T) {
	of := wide.Of
	holdShifts(t, []shifted{
		{greatest, 126, of(2)}, {least, 126, of(-2)}, {greatest, 125, of(4)}, {greatest, 1, api.Wide{Hi: 1 << 62}}, {least, 1, api.Wide{Hi: -1 << 62}},
		{greatest, 64, api.Wide{Lo: 1 << 63}}, {least, 64, of(math.MinInt64)},
		{api.Wide{Hi: 1 << 61}, 126, of(0)}, {api.Wide{Hi: 1 << 61, Lo: 1}, 126, of(1)}, {api.Wide{Hi: 3 << 61}, 126, of(2)}, {api.Wide{Hi: -1 << 61}, 126, of(0)}, {api.Wide{Hi: -3 << 61}, 126, of(-2)},
	})
}

func TestShiftByOthersIsTheNumberItself(t *testing.T) {
	for _, n := range []int{0, -1, -2, -64, math.MinInt, 127, 128, 192, 255, 256, math.MaxInt} {
		for _, a := range []api.Wide{{}, wide.Of(7), wide.Of(-7), greatest, least} {
			holdShifts(t, []shifted{{a, n, a}})
		}
	}
}

func TestShiftExact(t *testing.T) {
	for i, a := range append(edges(), strewn(5000)...) {
		for n := -1 - i%3; n <= 130; n += 3 {
			holdShifts(t, []shifted{{a, n, exactShift(a, n)}})
		}
	}
}

func TestFix(t *testing.T) {
	for a, want := range map[api.Wide]api.Fix{
		{}: 0, wide.Of(7): 7, wide.Of(-7): -7, wide.Of(int64(api.One)): api.One,
		{Lo: 1<<63 - 2}: api.Top - 1, {Lo: 1<<63 - 1}: api.Top, {Lo: 1 << 63}: api.Top, {Lo: math.MaxUint64}: api.Top, {Hi: 1}: api.Top, {Hi: 1, Lo: 5}: api.Top, greatest: api.Top,
		{Hi: -1, Lo: 1<<63 + 1}: api.Low + 1, {Hi: -1, Lo: 1 << 63}: api.Low, {Hi: -1, Lo: 1<<63 - 1}: api.Low, {Hi: -1}: api.Low, {Hi: -2, Lo: math.MaxUint64}: api.Low, least: api.Low,
	} {
		if got := wide.Fix(a); got != want {
			t.Errorf("P2.1: Fix(%v): %d, want %d", a, got, want)
		}
	}
}

func TestFixExact(t *testing.T) {
	for _, a := range append(edges(), strewn(5000)...) {
		if got, want := wide.Fix(a), held(valueOf(a)); got != want {
			t.Errorf("P2.1: Fix(%v): %d, want %d", a, got, want)
		}
	}
}

type divided struct {
	a    api.Wide
	n    int64
	want api.Fix
}

func holdOvers(t *testing.T, l []divided) {
	t.Helper()
	for _, c := range l {
		if got := wide.Over(c.a, c.n); got != c.want {
			t.Errorf("P2.1: Over(%v, %d): %d, want %d", c.a, c.n, got, c.want)
		}
	}
}

func TestOver(t *testing.T) {
	of := wide.Of
	holdOvers(t, []divided{
		{of(6), 2, 3}, {of(7), 2, 4}, {of(5), 2, 2}, {of(1), 2, 0}, {of(8), 3, 3}, {of(7), 3, 2}, {of(1), 3, 0}, {of(2), 3, 1}, {of(0), 3, 0},
		{of(-7), 2, -4}, {of(-5), 2, -2}, {of(-1), 2, 0}, {of(-8), 3, -3}, {of(-7), 3, -2},
		{of(7), -2, -4}, {of(5), -2, -2}, {of(1), -2, 0}, {of(8), -3, -3}, {of(0), -3, 0},
		{of(-7), -2, 4}, {of(-5), -2, 2}, {of(-8), -3, 3},
		{api.Wide{Hi: 1}, 4, 1 << 62}, {api.Wide{Hi: -1}, 4, -1 << 62}, {api.Wide{Hi: 1}, -4, -1 << 62}, {api.Wide{Hi: 1}, 3, 6148914691236517205},
		{of(math.MinInt64), math.MinInt64, 1}, {of(math.MaxInt64), math.MaxInt64, 1}, {api.Wide{Hi: 1 << 61}, math.MaxInt64, 1<<62 + 1},
		// By the least number, of the greatest size: twice the rest comes near to 2^64.
		{of(1 << 62), math.MinInt64, 0}, {of(1<<62 + 1), math.MinInt64, -1}, {of(math.MaxInt64), math.MinInt64, -1}, {api.Wide{Lo: 3 << 62}, math.MinInt64, -2},
	})
}

func TestOverHolds(t *testing.T) {
	of := wide.Of
	holdOvers(t, []divided{
		{of(math.MinInt64), -1, api.Top}, {of(math.MinInt64), 1, api.Low}, {of(math.MaxInt64), 1, api.Top}, {of(math.MaxInt64), -1, api.Low + 1},
		{api.Wide{Hi: 1}, 1, api.Top}, {api.Wide{Hi: 1}, -1, api.Low}, {api.Wide{Hi: -1}, 1, api.Low}, {api.Wide{Hi: -1}, -1, api.Top},
		{api.Wide{Hi: 1}, 2, api.Top}, {api.Wide{Hi: 1}, -2, api.Low}, {api.Wide{Lo: math.MaxUint64}, 2, api.Top}, {api.Wide{Lo: math.MaxUint64 - 1}, 2, api.Top}, {api.Wide{Lo: math.MaxUint64 - 3}, 2, api.Top - 1},
		{greatest, 1, api.Top}, {greatest, -1, api.Low}, {greatest, math.MaxInt64, api.Top}, {greatest, math.MinInt64, api.Low},
		{least, 1, api.Low}, {least, -1, api.Top}, {least, math.MaxInt64, api.Low}, {least, math.MinInt64, api.Top}, {least, 2, api.Low}, {least, -2, api.Top},
		// Rounded, the quotient is 2^64: the first that is more than a word.
		{api.Wide{Hi: 2, Lo: math.MaxUint64}, 3, api.Top}, {api.Wide{Hi: 2, Lo: math.MaxUint64}, -3, api.Low},
	})
}

func TestOverNought(t *testing.T) {
	for _, a := range []api.Wide{{}, wide.Of(1), wide.Of(-1), {Lo: 1 << 63}, {Hi: 1}, {Hi: -1}, greatest, least} {
		want := fix.Div(api.Fix(wide.Cmp(a, api.Wide{})), 0)
		holdOvers(t, []divided{{a, 0, want}})
	}
	holdOvers(t, []divided{{wide.Of(1), 0, api.Top}, {wide.Of(-1), 0, api.Low}, {wide.Of(0), 0, 0}, {greatest, 0, api.Top}, {least, 0, api.Low}})
}

func TestOverExact(t *testing.T) {
	near, far := edges(), strewn(5000)
	by, manyBy := wholeEdges(), strewnWholes(5000)
	for i, a := range near {
		for j := i % 3; j < len(by); j += 3 {
			holdOvers(t, []divided{{a, by[j], exactOver(a, by[j])}})
		}
	}
	for i, a := range far {
		for _, n := range []int64{manyBy[i], manyBy[(i*37+1)%len(manyBy)], by[i%len(by)]} {
			holdOvers(t, []divided{{a, n, exactOver(a, n)}})
		}
	}
}

// Quotients next to the bounds, where what is rounded may or may not be held.
func TestOverExactNextToTheBounds(t *testing.T) {
	for _, n := range append(wholeEdges(), strewnWholes(2000)...) {
		for _, end := range []int64{math.MaxInt64, math.MinInt64} {
			for off := int64(-3); off <= 3; off++ {
				// Half of n more or less is where the rounding turns.
				for _, a := range []api.Wide{wide.Prod(end, n), wide.Add(wide.Prod(end, n), wide.Of(n/2))} {
					a = wide.Add(a, wide.Of(off))
					holdOvers(t, []divided{{a, n, exactOver(a, n)}})
				}
			}
		}
	}
}
