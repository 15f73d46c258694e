package opt_test

import (
	"fmt"
	"math"
	"testing"

	"carousel/api"
	"carousel/opt"
)

// noCounts are below 1; some would not be, if only some of their bits were taken.
func noCounts() []int64 {
	return []int64{0, -1, -2, -1 << 31, -1<<32 + 1, -1 << 32, -1<<62 + 5, math.MinInt64, math.MinInt64 + 1}
}

// noBounds are below 0.
func noBounds() []api.Fix { return []api.Fix{-1, -2, -one, -one + 1, -top, low, low + 1} }

// Whatever else is wrong: ESHAPE comes first.
func TestNotAsMany(t *testing.T) {
	for p := range 4 {
		for m := range 4 {
			for g := range 4 {
				if p == m && m == g {
					continue
				}
				// Spare room is no number.
				s, sum := state(make([]api.Fix, p, 9), make([]api.Fix, m, 9)), make([]api.Wide, g, 9)
				what := fmt.Sprintf("of %d, %d and %d", p, m, g)
				refuses(t, what, s, sum, 1, opt.Rate{Step: one}, api.ESHAPE)
				for _, many := range noCounts() {
					refuses(t, what+", no count", s, sum, many, opt.Rate{}, api.ESHAPE)
					refuses(t, what+", no count and no bound", s, sum, many, opt.Rate{Bound: -1}, api.ESHAPE)
				}
				for _, bound := range noBounds() {
					refuses(t, what+", no bound", s, sum, 1, opt.Rate{Bound: bound}, api.ESHAPE)
				}
			}
		}
	}
}

// One of the three has one number more or one less than the two others.
func TestOneMoreOrLess(t *testing.T) {
	for _, many := range []int{1, 2, 7, api.MaxParams} {
		for _, off := range []int{-1, 1} {
			what := fmt.Sprintf("of %d with %d more", many, off)
			other := make([]api.Fix, many+off)
			as := make([]api.Fix, many)
			refuses(t, what+" in P", state(other, as), make([]api.Wide, many), 1, opt.Rate{}, api.ESHAPE)
			refuses(t, what+" in M", state(as, other), make([]api.Wide, many), 1, opt.Rate{}, api.ESHAPE)
			refuses(t, what+" in g", state(as, as), make([]api.Wide, many+off), 1, opt.Rate{}, api.ESHAPE)
		}
	}
	refuses(t, "without M", state(fixes(1), nil), wides(1), 1, opt.Rate{}, api.ESHAPE)
	refuses(t, "without P", state(nil, fixes(1)), wides(1), 1, opt.Rate{}, api.ESHAPE)
	refuses(t, "without g", opt.New(fixes(1)), nil, 1, opt.Rate{}, api.ESHAPE)
	refuses(t, "of g alone", opt.State{}, wides(1), 1, opt.Rate{}, api.ESHAPE)
}

func TestNoCount(t *testing.T) {
	for _, size := range []int{0, 1, 3} {
		s, g := opt.New(make([]api.Fix, size)), make([]api.Wide, size)
		for _, many := range noCounts() {
			what := fmt.Sprintf("of %d by %d", size, many)
			refuses(t, what, s, g, many, opt.Rate{Step: one, Keep: one}, api.EARG)
			refuses(t, what+" within 5", s, g, many, opt.Rate{Bound: 5}, api.EARG)
			refuses(t, what+", no bound", s, g, many, opt.Rate{Bound: -1}, api.EARG)
		}
		for _, many := range []int64{1, 2, 1 << 32, 1<<63 - 1} {
			goes(t, fmt.Sprintf("of %d by %d", size, many), s, g, many, opt.Rate{}, s.P, s.M)
		}
	}
}

func TestNoBound(t *testing.T) {
	for _, size := range []int{0, 1, 3} {
		s, g := opt.New(make([]api.Fix, size)), make([]api.Wide, size)
		for _, bound := range noBounds() {
			what := fmt.Sprintf("of %d within %d", size, bound)
			refuses(t, what, s, g, 1, opt.Rate{Step: one, Keep: one, Bound: bound}, api.EARG)
			refuses(t, what+" by many", s, g, math.MaxInt64, opt.Rate{Bound: bound}, api.EARG)
		}
		for _, bound := range []api.Fix{0, 1, one, top} {
			goes(t, fmt.Sprintf("of %d within %d", size, bound), s, g, 1, opt.Rate{Bound: bound}, s.P, s.M)
		}
	}
}

// Step and Keep may be any: no rate is refused by them.
func TestAnyStepAndKeep(t *testing.T) {
	for _, step := range []api.Fix{0, 1, -1, one, -one, top, low} {
		for _, keep := range []api.Fix{0, 1, -1, one, -one, top, low} {
			goes(t, fmt.Sprintf("by %d and %d", step, keep), opt.New(fixes(5)), wides(0), 1, opt.Rate{Step: step, Keep: keep}, fixes(5), fixes(0))
		}
	}
}
