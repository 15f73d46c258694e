package solo_test

import (
	"fmt"
	"math"
	"testing"

	"carousel/api"
	"carousel/opt"
	"carousel/solo"
)

// The chapter's example.
func TestExample(t *testing.T) {
	for _, p := range [][]api.Fix{whole(0, 0), whole(3, -7), {top, low}} {
		j := line()
		j.P = p
		reaches(t, fmt.Sprint("P ", p), j, 0, opt.State{P: p, M: []api.Fix{0, 0}})
	}
	reaches(t, "without parameters", still(3, 2), 0, opt.State{})
}

// At is the same State as so many Steps, at each place on the way.
func TestAtIsSoManySteps(t *testing.T) {
	for _, g := range goodJobs() {
		x := trainer(t, g.what, g.j)
		for k := range int64(40) {
			reaches(t, g.what, g.j, k, x.State())
			steps(t, g.what, x)
		}
	}
}

func TestAtTheLastStep(t *testing.T) {
	for _, g := range []named{{"line", line()}, {"still", still(5, 2)}} {
		x := trainer(t, g.what, g.j)
		for x.Steps() < 9999 {
			steps(t, g.what, x)
		}
		reaches(t, g.what, g.j, 9999, x.State())
		steps(t, g.what, x)
		reaches(t, g.what, g.j, 10000, x.State())
		// It is At alone that goes no further.
		steps(t, g.what, x)
		if x.Steps() != 10001 {
			t.Errorf("P17.1: %s: %d steps, want 10001", g.what, x.Steps())
		}
	}
}

// At 10000 the line stands elsewhere than at 9999: its steps are too great to come to rest.
func TestTheLastStepIsOne(t *testing.T) {
	j := line()
	j.Data[0].Y = whole(5)
	last, _ := solo.At(j, 10000)
	if before, err := solo.At(j, 9999); err != api.OK || alike(before, last) {
		t.Errorf("P17.1: At 9999 and At 10000: %v, %d both", before, err)
	}
}

// noSteps are beyond what At goes to; some would not be, if only some of their bits were taken.
func noSteps() []int64 {
	return []int64{-1, -2, -10000, -1 << 16, -1<<32 + 5, -1 << 32, math.MinInt64, math.MinInt64 + 5,
		10001, 10002, 20000, 1 << 16, 1<<32 + 5, 1 << 32, 1<<62 + 5, math.MaxInt64}
}

func TestNoSuchStep(t *testing.T) {
	for _, g := range goodJobs() {
		for _, k := range noSteps() {
			noState(t, g.what, g.j, k, api.EARG)
		}
		// It leaves nothing behind.
		reaches(t, g.what, g.j, 0, begun(g.j))
	}
}

// Good's error is told ahead of a step that is none.
func TestNoJobAndNoSuchStep(t *testing.T) {
	for _, k := range append(noSteps(), 0, 1, 10000) {
		for _, w := range wrongNets() {
			noState(t, w.what, with(classes(), w.change), k, w.err)
		}
		for _, w := range wrongNumbers() {
			noState(t, w.what, with(classes(), w.change), k, w.err)
		}
		for _, w := range wrongExamples() {
			noState(t, w.what, with(classes(), w.change), k, w.err)
		}
	}
}

func near(v, wanted, by api.Fix) bool { return v >= wanted-by && v <= wanted+by }

// With steps that are small enough the line is found: twice as much, and one.
func TestLearnsTheLine(t *testing.T) {
	j := line()
	j.Batch, j.Rate.Step = 4, one/16
	if s, err := solo.At(j, 400); err != api.OK || !near(s.P[0], 2*one, 1000) || !near(s.P[1], one, 1000) {
		t.Errorf("P17.1: At 400: %v, %d, want about 2 and 1", s, err)
	}
}

// Behind some steps every point is of its own class, by one or more: there is no loss left.
func TestLearnsClasses(t *testing.T) {
	x := trainer(t, "classes", with(classes(), func(j *solo.Job) { j.Batch = len(j.Data) }))
	for range 200 {
		steps(t, "classes", x)
	}
	if x.Loss() != (api.Wide{}) {
		t.Errorf("P17.1: classes: loss %v behind 200 steps, want 0", x.Loss())
	}
}
