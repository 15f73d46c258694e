package opt_test

import (
	"slices"
	"testing"

	"carousel/api"
	"carousel/opt"
)

func begins(t *testing.T, p []api.Fix) {
	t.Helper()
	s := opt.New(p)
	if !slices.Equal(s.P, p) || !slices.Equal(s.M, make([]api.Fix, len(p))) {
		t.Errorf("P15.1: New of %d numbers %v: P %v, M %v", len(p), short(p), short(s.P), short(s.M))
	}
}

func TestNew(t *testing.T) {
	for _, p := range [][]api.Fix{
		nil, {}, make([]api.Fix, 3)[:0], {0}, {one}, {-one}, {top}, {low}, {1, 2}, {top, 0, low}, {5, 5, -5, 5}, make([]api.Fix, 2, 9),
	} {
		begins(t, p)
	}
	for _, many := range []int{api.MaxParams, api.MaxParams + 1, 20000} {
		p := make([]api.Fix, many)
		for i := range p {
			p[i] = api.Fix(i + 1)
		}
		begins(t, p)
	}
}

func TestNewIsGoodForApply(t *testing.T) {
	for many := range 5 {
		p := slices.Repeat(fixes(7), many)
		goes(t, "behind New", opt.New(p), make([]api.Wide, many), 1, opt.Rate{Step: one, Keep: one}, p, make([]api.Fix, many))
	}
}
