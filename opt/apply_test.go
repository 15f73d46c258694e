package opt_test

import (
	"fmt"
	"math"
	"slices"
	"testing"

	"carousel/api"
	"carousel/opt"
)

// The chapter's example, in parts and in ones.
func TestExample(t *testing.T) {
	goes(t, "in parts", state(fixes(1), fixes(0)), wides(2), 1, opt.Rate{Step: one}, fixes(-1), fixes(2))
	goes(t, "in ones", state(fixes(one), fixes(0)), wides(int64(2*one)), 1, opt.Rate{Step: one}, fixes(-one), fixes(2*one))
}

func TestNoNumber(t *testing.T) {
	empty := make([]api.Fix, 3)[:0]
	for _, s := range []opt.State{{}, state([]api.Fix{}, nil), state(nil, []api.Fix{}), state(empty, empty), opt.New(nil)} {
		for _, g := range [][]api.Wide{nil, {}, make([]api.Wide, 2)[:0]} {
			for _, many := range []int64{1, 2, math.MaxInt64} {
				goes(t, "of no number", s, g, many, opt.Rate{Step: one, Keep: one, Bound: 1}, nil, nil)
			}
		}
	}
}

// mean asks for one number's mean: with Keep 0 it is M, and with Step 0 P stays.
func mean(t *testing.T, g api.Wide, many int64, bound, wanted api.Fix) {
	t.Helper()
	what := fmt.Sprintf("of %v by %d within %d", g, many, bound)
	goes(t, what, state(fixes(7), fixes(-7)), []api.Wide{g}, many, opt.Rate{Bound: bound}, fixes(7), fixes(wanted))
}

// Of two that are as near it is the even one, on both sides of 0.
func TestMean(t *testing.T) {
	for _, c := range []struct {
		g, many int64
		want    api.Fix
	}{
		{0, 1, 0}, {0, 9, 0}, {5, 1, 5}, {-5, 1, -5}, {6, 3, 2}, {-6, 3, -2}, {int64(6 * one), 3, 2 * one}, {int64(one), 3, 1431655765}, {-int64(one), 3, -1431655765},
		{1, 2, 0}, {3, 2, 2}, {5, 2, 2}, {7, 2, 4}, {-1, 2, 0}, {-3, 2, -2}, {-5, 2, -2}, {-7, 2, -4},
		{1, 3, 0}, {2, 3, 1}, {4, 3, 1}, {5, 3, 2}, {-1, 3, 0}, {-2, 3, -1}, {-4, 3, -1}, {-5, 3, -2},
		{2, 4, 0}, {6, 4, 2}, {10, 4, 2}, {-2, 4, 0}, {-6, 4, -2}, {-10, 4, -2}, {7, 4, 2}, {9, 4, 2}, {-7, 4, -2}, {-9, 4, -2},
		{5, 1000, 0}, {500, 1000, 0}, {501, 1000, 1}, {1500, 1000, 2}, {-501, 1000, -1}, {-1500, 1000, -2},
		{math.MaxInt64, 1, top}, {math.MinInt64, 1, low}, {math.MinInt64, 2, low / 2}, {math.MaxInt64, 2, 1 << 62},
		{math.MaxInt64, math.MaxInt64, 1}, {math.MinInt64, math.MaxInt64, -1}, {1 << 62, math.MaxInt64, 1}, {1<<62 - 1, math.MaxInt64, 0}, {5, math.MaxInt64, 0},
	} {
		mean(t, wides(c.g)[0], c.many, 0, c.want)
	}
}

// Held only behind the division: a sum beyond a Fix still has its own mean.
func TestMeanOfWhatIsBeyondAFix(t *testing.T) {
	for _, c := range []struct {
		g    api.Wide
		many int64
		want api.Fix
	}{
		{api.Wide{Lo: 1 << 63}, 1, top}, {api.Wide{Lo: 1 << 63}, 2, 1 << 62}, {api.Wide{Lo: math.MaxUint64}, 2, top}, {api.Wide{Lo: math.MaxUint64 - 1}, 2, top}, {api.Wide{Lo: math.MaxUint64}, 5, 3689348814741910323},
		{api.Wide{Hi: 1}, 1, top}, {api.Wide{Hi: 1}, 2, top}, {api.Wide{Hi: 1}, 3, 6148914691236517205}, {api.Wide{Hi: 1}, 4, 1 << 62}, {api.Wide{Hi: 5}, 1, top}, {api.Wide{Hi: 5}, 20, 1 << 62},
		{api.Wide{Hi: -1, Lo: 1<<63 - 1}, 1, low}, {api.Wide{Hi: -1}, 1, low}, {api.Wide{Hi: -1}, 2, low}, {api.Wide{Hi: -1}, 3, -6148914691236517205}, {api.Wide{Hi: -1}, 4, -1 << 62}, {api.Wide{Hi: -5}, 1, low}, {api.Wide{Hi: -5}, 20, -1 << 62},
		{api.Wide{Hi: 1 << 20}, 1 << 40, 1 << 44}, {api.Wide{Hi: -1 << 20}, 1 << 40, -1 << 44},
		{greatest(), 1, top}, {least(), 1, low}, {greatest(), math.MaxInt64, top}, {least(), math.MaxInt64, low},
	} {
		mean(t, c.g, c.many, 0, c.want)
	}
}

func TestBound(t *testing.T) {
	for _, c := range []struct {
		g, many     int64
		bound, want api.Fix
	}{
		// From above, from below, and what it just meets.
		{5, 1, 3, 3}, {4, 1, 3, 3}, {3, 1, 3, 3}, {2, 1, 3, 2}, {0, 1, 3, 0}, {-2, 1, 3, -2}, {-3, 1, 3, -3}, {-4, 1, 3, -3}, {-5, 1, 3, -3},
		{int64(2 * one), 1, one, one}, {int64(one), 1, one, one}, {int64(one) - 1, 1, one, one - 1}, {int64(one) + 1, 1, one, one}, {-int64(one), 1, one, -one}, {-int64(one) - 1, 1, one, -one}, {-int64(2 * one), 1, one, -one},
		// A bound of 0 is none, and one of a part the least one.
		{5, 1, 0, 5}, {-5, 1, 0, -5}, {5, 1, 1, 1}, {-5, 1, 1, -1}, {1, 1, 1, 1}, {-1, 1, 1, -1}, {0, 1, 1, 0},
		// It is the mean that is held, not the sum, and it is rounded ahead.
		{9, 3, 3, 3}, {10, 3, 3, 3}, {8, 3, 3, 3}, {-9, 3, 3, -3}, {100, 3, 50, 33}, {7, 2, 3, 3}, {5, 2, 2, 2}, {7, 2, 4, 4}, {-7, 2, 3, -3},
		// Low is below -Top.
		{math.MaxInt64, 1, top, top}, {math.MinInt64, 1, top, -top}, {math.MinInt64 + 1, 1, top, -top}, {math.MinInt64, 1, top - 1, -top + 1}, {math.MinInt64, 1, 0, low}, {5, 1, top, 5}, {-5, 1, top, -5},
	} {
		mean(t, wides(c.g)[0], c.many, c.bound, c.want)
	}
	for _, bound := range []api.Fix{1, 3, one, top - 1, top} {
		mean(t, api.Wide{Hi: 5}, 1, bound, bound)
		mean(t, api.Wide{Hi: -5}, 1, bound, -bound)
		mean(t, greatest(), math.MaxInt64, bound, bound)
		mean(t, least(), math.MaxInt64, bound, -bound)
	}
}

// It is the mean alone that a bound holds: neither M nor P.
func TestBoundHoldsNothingElse(t *testing.T) {
	r := opt.Rate{Step: one, Keep: one, Bound: 3}
	goes(t, "with M above the bound", state(fixes(100), fixes(50)), wides(10), 1, r, fixes(47), fixes(53))
	goes(t, "with M below the bound", state(fixes(-100), fixes(-50)), wides(-10), 1, r, fixes(-47), fixes(-53))
	goes(t, "with steps above the bound", state(fixes(0), fixes(0)), wides(10), 1, opt.Rate{Step: 9 * one, Bound: 3}, fixes(-27), fixes(3))
}

// What M is without a gradient, and what P becomes by it.
func TestKeepAndStep(t *testing.T) {
	for _, c := range []struct{ m, keep, kept api.Fix }{
		{8, 0, 0}, {8, one, 8}, {8, half, 4}, {8, one / 4, 2}, {8, -one, -8}, {8, -half, -4}, {8, 3 * one, 24}, {-8, half, -4}, {-8, -half, 4}, {0, half, 0},
		// Of two that are as near the even one.
		{1, half, 0}, {3, half, 2}, {5, half, 2}, {-1, half, 0}, {-3, half, -2}, {-5, half, -2}, {3, -half, -2}, {1, 1, 0}, {one, 1, 1}, {one, -1, -1},
		{top, one, top}, {low, one, low}, {top, 2 * one, top}, {low, 2 * one, low}, {low, -one, top}, {top, -one, -top}, {top, -2 * one, low}, {top, top, top}, {low, low, top}, {top, low, low}, {low, 0, 0}, {top, half, 1 << 62},
	} {
		what := fmt.Sprintf("of %d kept by %d", c.m, c.keep)
		goes(t, what, state(fixes(7), fixes(c.m)), wides(0), 1, opt.Rate{Keep: c.keep}, fixes(7), fixes(c.kept))
		// The step is taken by the same product, so the same rows tell of it: P is 0 less that.
		next, _ := opt.Apply(state(fixes(0), fixes(0)), wides(int64(c.m)), 1, opt.Rate{Step: c.keep})
		wanted := -c.kept
		if c.kept == low {
			wanted = top
		}
		if !slices.Equal(next.P, fixes(wanted)) || !slices.Equal(next.M, fixes(c.m)) {
			t.Errorf("P15.1: Apply of %d stepped by %d: %v, want P %d", c.m, c.keep, next, wanted)
		}
	}
}

func TestAllTogether(t *testing.T) {
	for _, c := range []struct {
		p, m     api.Fix
		g, many  int64
		r        opt.Rate
		toP, toM api.Fix
	}{
		{one, 4 * one, int64(6 * one), 3, opt.Rate{Step: half, Keep: half}, -one, 4 * one},
		{10 * one, -2 * one, int64(-8 * one), 2, opt.Rate{Step: one / 4, Keep: one}, 23 * one / 2, -6 * one},
		{10 * one, -2 * one, int64(-8 * one), 2, opt.Rate{Step: -one / 4, Keep: one}, 17 * one / 2, -6 * one},
		{10 * one, 2 * one, int64(8 * one), 2, opt.Rate{Step: one, Keep: -half}, 7 * one, 3 * one},
		{10 * one, 2 * one, int64(8 * one), 2, opt.Rate{Step: one, Keep: half, Bound: one}, 8 * one, 2 * one},
		{10 * one, 2 * one, int64(-8 * one), 2, opt.Rate{Step: one, Keep: half, Bound: one}, 10 * one, 0},
		{10 * one, 2 * one, int64(8 * one), 2, opt.Rate{}, 10 * one, 4 * one},
		{10 * one, 2 * one, int64(8 * one), 2, opt.Rate{Keep: one}, 10 * one, 6 * one},
		// The product of Keep is rounded ahead of the sum, and that of Step ahead of the difference.
		{0, 1, 1, 1, opt.Rate{Step: one, Keep: half}, -1, 1}, {0, 3, 1, 1, opt.Rate{Step: one, Keep: half}, -3, 3}, {1, 0, 1, 1, opt.Rate{Step: half}, 1, 1}, {1, 0, 3, 1, opt.Rate{Step: half}, -1, 3},
	} {
		what := fmt.Sprintf("of P %d, M %d, g %d by %d, %v", c.p, c.m, c.g, c.many, c.r)
		goes(t, what, state(fixes(c.p), fixes(c.m)), wides(c.g), c.many, c.r, fixes(c.toP), fixes(c.toM))
	}
}

// At the ends M and P are held, neither wrapped round nor refused.
func TestHeldAtTheEnds(t *testing.T) {
	for _, c := range []struct {
		p, m     api.Fix
		g        api.Wide
		r        opt.Rate
		toP, toM api.Fix
	}{
		{0, top, wides(1)[0], opt.Rate{Keep: one}, 0, top}, {0, top, wides(-1)[0], opt.Rate{Keep: one}, 0, top - 1}, {0, low, wides(-1)[0], opt.Rate{Keep: one}, 0, low}, {0, low, wides(1)[0], opt.Rate{Keep: one}, 0, low + 1},
		{low, 0, wides(1)[0], opt.Rate{Step: one}, low, 1}, {top, 0, wides(-1)[0], opt.Rate{Step: one}, top, -1}, {low, 0, wides(-1)[0], opt.Rate{Step: one}, low + 1, -1}, {top, 0, wides(1)[0], opt.Rate{Step: one}, top - 1, 1},
		{0, 0, api.Wide{Hi: 5}, opt.Rate{Step: one}, -top, top}, {0, 0, api.Wide{Hi: -5}, opt.Rate{Step: one}, top, low}, {-1, 0, api.Wide{Hi: 5}, opt.Rate{Step: one}, low, top}, {-2, 0, api.Wide{Hi: 5}, opt.Rate{Step: one}, low, top},
		{-1, 0, api.Wide{Hi: -5}, opt.Rate{Step: one}, top, low}, {-2, 0, api.Wide{Hi: -5}, opt.Rate{Step: one}, top - 1, low}, {7, 0, api.Wide{Hi: -9}, opt.Rate{Step: one, Bound: top}, top, -top},
		{top, top, greatest(), opt.Rate{Step: top, Keep: top}, 0, top}, {low, low, least(), opt.Rate{Step: low, Keep: top}, low, low}, {low, low, least(), opt.Rate{Step: top, Keep: top}, 0, low},
		// M is held ahead of the step: without that, half of it would be more.
		{0, top, wides(math.MaxInt64)[0], opt.Rate{Step: half, Keep: one}, -1 << 62, top}, {0, low, wides(math.MinInt64)[0], opt.Rate{Step: half, Keep: one}, 1 << 62, low},
		// The step is held ahead of the difference: from Top on it comes to 0.
		{top, 0, wides(math.MaxInt64)[0], opt.Rate{Step: 2 * one}, 0, top}, {low, 0, wides(math.MinInt64)[0], opt.Rate{Step: 2 * one}, 0, low},
		// Kept is held ahead of the sum.
		{0, top, wides(-5)[0], opt.Rate{Keep: 2 * one}, 0, top - 5}, {0, low, wides(5)[0], opt.Rate{Keep: 2 * one}, 0, low + 5},
	} {
		what := fmt.Sprintf("of P %d, M %d, g %v, %v", c.p, c.m, c.g, c.r)
		goes(t, what, state(fixes(c.p), fixes(c.m)), []api.Wide{c.g}, 1, c.r, fixes(c.toP), fixes(c.toM))
	}
}

// Each number goes by its own P, M and g.
func TestSeveralNumbers(t *testing.T) {
	s := state(fixes(one, 2*one, 3*one, -4*one), fixes(8*one, 0, -8*one, 4*one))
	g := wides(int64(2*one), int64(-6*one), 0, int64(20*one))
	goes(t, "of four", s, g, 2, opt.Rate{Step: half, Keep: one / 4, Bound: 4 * one}, fixes(-half, 7*half, 4*one, -13*half), fixes(3*one, -3*one, -2*one, 5*one))
	many := api.MaxParams + 1
	p, m, sum := make([]api.Fix, many), make([]api.Fix, many), make([]api.Wide, many)
	toP, toM := make([]api.Fix, many), make([]api.Fix, many)
	for i := range p {
		n := api.Fix(i)
		p[i], m[i], sum[i] = 10*n, 2*n, wides(int64(3 * n))[0]
		toP[i], toM[i] = 7*n, 3*n
	}
	goes(t, "of more than a net has", state(p, m), sum, 3, opt.Rate{Step: one, Keep: one}, toP, toM)
}

// What Apply tells goes into the next Apply.
func TestStepsInARow(t *testing.T) {
	s := opt.New(fixes(16*one, 0))
	r := opt.Rate{Step: half, Keep: half, Bound: 8 * one}
	for i, wanted := range []opt.State{
		state(fixes(12*one, 2*one), fixes(8*one, -4*one)),
		state(fixes(6*one, 5*one), fixes(12*one, -6*one)),
		state(fixes(-one, 17*half), fixes(14*one, -7*one)),
	} {
		next, err := opt.Apply(s, wides(int64(100*one), int64(-8*one)), 2, r)
		if err != api.OK || !slices.Equal(next.P, wanted.P) || !slices.Equal(next.M, wanted.M) {
			t.Fatalf("P15.1: step %d: %v, %d, want %v", i+1, next, err, wanted)
		}
		s = next
	}
}
