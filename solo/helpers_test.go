package solo_test

import (
	"math"
	"math/big"
	"slices"
	"testing"

	"carousel/api"
	"carousel/grad"
	"carousel/model"
	"carousel/opt"
	"carousel/solo"
)

const (
	one  = api.One
	half = one / 2
	top  = api.Top
	low  = api.Low
)

// The kinds of losses.
const (
	square = 1
	size   = 2
	hinge  = 3
)

func whole(v ...int64) []api.Fix {
	l := make([]api.Fix, len(v))
	for i := range v {
		l[i] = api.Fix(v[i]) * one
	}
	return l
}

// parts are so many numbers of so many parts of one each.
func parts(by api.Fix, v ...int64) []api.Fix {
	l := make([]api.Fix, len(v))
	for i := range v {
		l[i] = api.Fix(v[i]) * (one / by)
	}
	return l
}

func toward(x, y []api.Fix) grad.Example      { return grad.Example{X: x, Y: y} }
func ofClass(x []api.Fix, c int) grad.Example { return grad.Example{X: x, Class: c} }

// net is one that is known to be good.
func net(text string) model.Net {
	n, err := model.Parse(text)
	if err != api.OK {
		panic("no net: " + text)
	}
	return n
}

// line is a line through four points, two a step.
func line() solo.Job {
	j := solo.Job{Net: net("in 1 dense 1"), Kind: square, Batch: 2, Rate: opt.Rate{Step: one / 4, Keep: half}, P: whole(0, 0)}
	for x := range int64(4) {
		j.Data = append(j.Data, toward(whole(x), whole(2*x+1)))
	}
	return j
}

// classes asks which of three a point of two numbers is.
func classes() solo.Job {
	return solo.Job{
		Net: net("in 2 dense 3"), Kind: hinge, Batch: 2, Rate: opt.Rate{Step: one / 8, Keep: half, Bound: 2 * one},
		Data: []grad.Example{
			ofClass(whole(3, 0), 0), ofClass(whole(0, 3), 1), ofClass(whole(-2, -2), 2), ofClass(whole(4, -1), 0), ofClass(whole(-1, 4), 1),
		},
		P: make([]api.Fix, 9),
	}
}

// deep has each kind of layer.
func deep() solo.Job {
	j := solo.Job{
		Net: net("in 2 6 conv 2 3 bend 2 pool 2 dense 3 bend 3 dense 3 skip dense 2"), Kind: size, Batch: 3,
		Rate: opt.Rate{Step: one / 64, Keep: 3 * one / 4, Bound: one},
	}
	params, _ := model.Params(j.Net)
	for i := range params {
		j.P = append(j.P, api.Fix(i*i%17-8)*(one/16)+api.Fix(i))
	}
	for i := range 7 {
		e := toward(nil, whole(int64(i), int64(2-i)))
		for n := range 12 {
			e.X = append(e.X, api.Fix((i+3)*(n+5)%23-11)*(one/8))
		}
		j.Data = append(j.Data, e)
	}
	return j
}

// still has no parameters: by its losses alone it tells which examples were taken. The i-th example's
// own is 2^i parts, so that no two batches have the same.
func still(many, batch int) solo.Job {
	j := solo.Job{Net: net("in 1"), Kind: size, Batch: batch, Rate: opt.Rate{Step: one}}
	for i := range many {
		j.Data = append(j.Data, toward([]api.Fix{1 << i}, whole(0)))
	}
	return j
}

// full has as many examples as may be: the i-th one's loss is i parts.
func full(batch int) solo.Job {
	j := solo.Job{Net: net("in 1"), Kind: size, Batch: batch}
	for i := range api.MaxData {
		j.Data = append(j.Data, toward([]api.Fix{api.Fix(i)}, whole(0)))
	}
	return j
}

// named is a job that is told by what it is.
type named struct {
	what string
	j    solo.Job
}

// goodJobs are some that train.
func goodJobs() []named {
	bound, back, all, each := line(), line(), classes(), deep()
	bound.Rate = opt.Rate{Step: one / 2, Bound: one}
	back.Rate = opt.Rate{Step: -one / 64, Keep: -half, Bound: 0}
	all.Batch = len(all.Data)
	each.Batch = 1
	return []named{
		{"line", line()}, {"classes", classes()}, {"deep", deep()}, {"still", still(5, 2)}, {"line within a bound", bound},
		{"line backwards", back}, {"classes, all of them", all}, {"deep, one by one", each},
	}
}

// with is a job with something changed. What a change writes on must be new memory.
func with(j solo.Job, change func(j *solo.Job)) solo.Job {
	change(&j)
	return j
}

// alike tells whether two states are of the same numbers: nil and an empty list are one.
func alike(a, b opt.State) bool { return slices.Equal(a.P, b.P) && slices.Equal(a.M, b.M) }

func empty(s opt.State) bool { return len(s.P) == 0 && len(s.M) == 0 }

// short leaves out what nobody would read.
func short(s opt.State) opt.State {
	return opt.State{P: s.P[:min(len(s.P), 12)], M: s.M[:min(len(s.M), 12)]}
}

// trainer makes one of a job that is known to be good.
func trainer(t *testing.T, what string, j solo.Job) *solo.Trainer {
	t.Helper()
	x, err := solo.New(j)
	if err != api.OK || x == nil {
		t.Fatalf("P17.1: New, %s: %d", what, err)
	}
	return x
}

// stands asks a trainer for all that it tells.
func stands(t *testing.T, what string, x *solo.Trainer, steps int64, s opt.State, loss api.Wide) {
	t.Helper()
	if x.Steps() != steps || !alike(x.State(), s) || x.Loss() != loss {
		t.Errorf("P17.1: %s: %d steps, %v, loss %v, want %d, %v, %v", what, x.Steps(), short(x.State()), x.Loss(), steps, short(s), loss)
	}
}

// steps asks for a step that is done.
func steps(t *testing.T, what string, x *solo.Trainer) {
	t.Helper()
	if err := x.Step(); err != api.OK {
		t.Errorf("P17.1: Step, %s: %d", what, err)
	}
}

// begun is the state of a job ahead of any step.
func begun(j solo.Job) opt.State { return opt.State{P: j.P, M: make([]api.Fix, len(j.P))} }

// begins asks for a job that may be, and for a trainer that stands at its beginning.
func begins(t *testing.T, what string, j solo.Job) {
	t.Helper()
	if err := solo.Good(j); err != api.OK {
		t.Errorf("P17.1: Good, %s: %d, want 0", what, err)
	}
	stands(t, "New, "+what, trainer(t, what, j), 0, begun(j), api.Wide{})
	reaches(t, what, j, 0, begun(j))
}

// reaches asks At for a state.
func reaches(t *testing.T, what string, j solo.Job, k int64, s opt.State) {
	t.Helper()
	if got, err := solo.At(j, k); err != api.OK || !alike(got, s) {
		t.Errorf("P17.1: At %d, %s: %v, %d, want %v", k, what, short(got), err, short(s))
	}
}

// noState asks At for an error and for nothing beside it.
func noState(t *testing.T, what string, j solo.Job, k int64, wanted api.Errno) {
	t.Helper()
	if s, err := solo.At(j, k); err != wanted || !empty(s) {
		t.Errorf("P17.1: At %d, %s: %v, %d, want none, %d", k, what, short(s), err, wanted)
	}
}

// refuses asks all calls for a job's error, and for nothing beside it.
func refuses(t *testing.T, what string, j solo.Job, wanted api.Errno) {
	t.Helper()
	if err := solo.Good(j); err != wanted {
		t.Errorf("P17.1: Good, %s: %d, want %d", what, err, wanted)
	}
	if x, err := solo.New(j); err != wanted || x != nil {
		t.Errorf("P17.1: New, %s: %v, %d, want none, %d", what, x != nil, err, wanted)
	}
	for _, k := range []int64{0, 1, 10000, -1, 10001} {
		noState(t, what, j, k, wanted)
	}
}

// wideOf tells a whole number that is not below 0 as a Wide.
func wideOf(v *big.Int) api.Wide {
	hi := new(big.Int).Rsh(v, 64)
	return api.Wide{Hi: hi.Int64(), Lo: new(big.Int).Sub(v, new(big.Int).Lsh(hi, 64)).Uint64()}
}

// noCounts are below 0 or far too great; some would not be, if only some of their bits were taken.
func noCounts() []int {
	return []int{-1, -2, -1 << 8, -1<<8 + 2, -1<<16 + 2, -1<<32 + 1, -1 << 32, math.MinInt, math.MinInt + 2,
		1<<8 + 2, 1<<16 + 1, 1<<32 + 1, 1<<32 + 2, 1<<62 + 2, math.MaxInt}
}
