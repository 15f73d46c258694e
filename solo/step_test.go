package solo_test

import (
	"fmt"
	"math/big"
	"math/rand"
	"testing"

	"carousel/api"
	"carousel/grad"
	"carousel/opt"
	"carousel/solo"
	"carousel/wide"
)

// stood is what a trainer must tell behind a step.
type stood struct {
	s    opt.State
	loss api.Wide
}

// goesThrough asks for steps one by one, and for what each of them leads to.
func goesThrough(t *testing.T, what string, j solo.Job, all []stood) {
	t.Helper()
	x := trainer(t, what, j)
	stands(t, what, x, 0, begun(j), api.Wide{})
	for i, wanted := range all {
		steps(t, what, x)
		stands(t, fmt.Sprintf("%s, step %d", what, i+1), x, int64(i+1), wanted.s, wanted.loss)
		reaches(t, what, j, int64(i+1), wanted.s)
		if t.Failed() {
			return
		}
	}
}

// far is a loss of so many parts of one.
func far(by api.Fix, v int64) api.Wide { return wide.Of(v * int64(one/by)) }

// Two of four: the third step takes what the first one took.
func TestTwoOfFourByHand(t *testing.T) {
	goesThrough(t, "two of four", line(), []stood{
		{opt.State{P: parts(4, 3, 4), M: whole(-3, -4)}, far(1, 10)},
		{opt.State{P: parts(16, 83, 49), M: parts(4, -71, -33)}, far(16, 325)},
		{opt.State{P: parts(64, 390, 145), M: parts(16, -58, 51)}, far(256, 8145)},
		{opt.State{P: parts(256, -2135, -994), M: parts(64, 3695, 1574)}, far(2048, 558857)},
	})
}

// Two of three: the second step goes over the end, and each third one takes the same.
func TestTwoOfThreeByHand(t *testing.T) {
	j := line()
	j.Data, j.Rate.Bound = j.Data[:3], one
	goesThrough(t, "two of three within a bound", j, []stood{
		{opt.State{P: parts(4, 1, 1), M: whole(-1, -1)}, far(1, 10)},
		{opt.State{P: parts(8, 5, 5), M: parts(2, -3, -3)}, far(8, 149)},
		{opt.State{P: parts(16, 17, 17), M: parts(4, -7, -7)}, far(64, 821)},
		{opt.State{P: parts(64, 96, 95), M: parts(16, -28, -27)}, far(256, 197)},
		{opt.State{P: parts(64, 126, 109), M: parts(8, -15, -7)}, far(2048, 1025)},
	})
}

func TestFourOfFourByHand(t *testing.T) {
	j := line()
	j.Batch, j.Rate = 4, opt.Rate{Step: one / 8}
	goesThrough(t, "all four", j, []stood{
		{opt.State{P: parts(8, 17, 8), M: whole(-17, -8)}, far(1, 84)},
		{opt.State{P: parts(64, 129, 61), M: parts(8, 7, 3)}, far(32, 7)},
		{opt.State{P: parts(512, 1034, 491), M: parts(64, -2, -3)}, far(2048, 7)},
	})
}

// round tells places one behind the other, and begins again at the end.
type round struct{ next, total int }

func (r *round) take(many int) []int {
	var places []int
	for range many {
		places = append(places, r.next)
		if r.next++; r.next == r.total {
			r.next = 0
		}
	}
	return places
}

// By the loss alone each step tells which examples it took.
func TestBatchesGoRound(t *testing.T) {
	for _, total := range []int{1, 2, 3, 4, 5, 7, 8, 60} {
		for batch := 1; batch <= total; batch++ {
			what := fmt.Sprintf("%d of %d", batch, total)
			x := trainer(t, what, still(total, batch))
			r := &round{total: total}
			for k := range int64(2*total + 3) {
				sum := new(big.Int)
				for _, place := range r.take(batch) {
					sum.SetBit(sum, place, 1)
				}
				steps(t, what, x)
				stands(t, what, x, k+1, opt.State{}, wideOf(sum))
			}
		}
	}
}

func TestBatchesOfAsManyAsMayBe(t *testing.T) {
	for _, batch := range []int{1, 2, 100, 255, api.MaxData} {
		what := fmt.Sprintf("%d of %d", batch, api.MaxData)
		x := trainer(t, what, full(batch))
		r := &round{total: api.MaxData}
		for k := range int64(2*api.MaxData/batch + 3) {
			var sum int64
			for _, place := range r.take(batch) {
				sum += int64(place)
			}
			steps(t, what, x)
			stands(t, what, x, k+1, opt.State{}, wide.Of(sum))
		}
	}
}

// A loss may be beyond a Fix, and is 0 again where nothing is off.
func TestLossIsTheLastOne(t *testing.T) {
	j := solo.Job{Net: net("in 1"), Kind: size, Batch: 3}
	for _, x := range []api.Fix{top, top, top, 0, 0, 0, low, 5, -5} {
		j.Data = append(j.Data, toward([]api.Fix{x}, whole(0)))
	}
	x := trainer(t, "a great loss", j)
	three := new(big.Int).Mul(big.NewInt(int64(top)), big.NewInt(3))
	for round := range int64(3) {
		for i, wanted := range []api.Wide{wideOf(three), {}, {Lo: 1<<63 + 9}} {
			steps(t, "a great loss", x)
			stands(t, "a great loss", x, 3*round+int64(i)+1, opt.State{}, wanted)
		}
	}
}

// follows asks for steps, each of them worked out from the layers below.
func follows(t *testing.T, what string, j solo.Job, many int64) {
	t.Helper()
	x, r, s := trainer(t, what, j), &round{total: len(j.Data)}, begun(j)
	for k := range many {
		var batch []grad.Example
		for _, place := range r.take(j.Batch) {
			batch = append(batch, j.Data[place])
		}
		sum, loss, err := grad.Sum(j.Net, j.Kind, s.P, batch)
		if err != api.OK {
			t.Fatalf("Sum, %s: %d", what, err)
		}
		if s, err = opt.Apply(s, sum, int64(j.Batch), j.Rate); err != api.OK {
			t.Fatalf("Apply, %s: %d", what, err)
		}
		steps(t, what, x)
		stands(t, what, x, k+1, s, loss)
		if t.Failed() {
			return
		}
	}
	reaches(t, what, j, many, s)
}

func TestStepsAreTheLayersBelow(t *testing.T) {
	for _, g := range goodJobs() {
		for batch := 1; batch <= len(g.j.Data); batch++ {
			j := g.j
			j.Batch = batch
			follows(t, fmt.Sprintf("%s, batches of %d", g.what, batch), j, 17)
		}
		follows(t, g.what, g.j, 100)
	}
}

// strewnFix has all sizes, the bounds among them.
func strewnFix(r *rand.Rand) api.Fix {
	switch r.Intn(8) {
	case 0:
		return []api.Fix{top, low, 0, 1, -1, one, -one, half}[r.Intn(8)]
	case 1:
		return api.Fix(r.Uint64()) >> r.Intn(64)
	}
	return api.Fix(r.Int63n(int64(8*one))) - 4*one
}

func strewnFixes(r *rand.Rand, many int) []api.Fix {
	v := make([]api.Fix, many)
	for i := range v {
		v[i] = strewnFix(r)
	}
	return v
}

// shapesOf are nets that tell a row, with how many go in, how many come out, how many are parameters.
func shapesOf() []struct {
	text            string
	in, out, params int
} {
	return []struct {
		text            string
		in, out, params int
	}{
		{"in 1 dense 1", 1, 1, 2}, {"in 2 dense 3", 2, 3, 9}, {"in 3 bend 1", 3, 3, 0}, {"in 2 dense 2 bend 2 skip dense 2", 2, 2, 12},
		{"in 2 3 conv 2 2 bend 3 dense 2", 6, 2, 18}, {"in 1 4 pool 2 dense 1 bend 5", 4, 1, 3}, {"in 2 2 dense 4", 4, 4, 20},
	}
}

func strewnJob(r *rand.Rand) solo.Job {
	all := shapesOf()
	n := all[r.Intn(len(all))]
	j := solo.Job{Net: net(n.text), Kind: r.Intn(3) + 1, P: strewnFixes(r, n.params)}
	j.Rate = opt.Rate{Step: strewnFix(r) / 16, Keep: strewnFix(r) / 4}
	if r.Intn(2) == 0 {
		j.Rate.Bound = strewnFix(r) & top
	}
	for range r.Intn(9) + 1 {
		j.Data = append(j.Data, grad.Example{X: strewnFixes(r, n.in), Y: strewnFixes(r, n.out), Class: r.Intn(n.out)})
	}
	j.Batch = r.Intn(len(j.Data)) + 1
	return j
}

// With numbers as great as may be, too, no step is refused.
func TestStrewnJobs(t *testing.T) {
	r := rand.New(rand.NewSource(1))
	for range 600 {
		j := strewnJob(r)
		follows(t, fmt.Sprintf("%v", j), j, int64(r.Intn(20)))
		if t.Failed() {
			return
		}
	}
}

// One trainer's steps are not to be seen in another one's, of one job or of two.
func TestTrainersAreApart(t *testing.T) {
	for _, g := range goodJobs() {
		first, second, other := trainer(t, g.what, g.j), trainer(t, g.what, g.j), trainer(t, "classes", classes())
		for range 5 {
			steps(t, g.what, first)
			steps(t, "classes", other)
			steps(t, "classes", other)
		}
		stands(t, g.what+" beside others", second, 0, begun(g.j), api.Wide{})
		for k := range int64(5) {
			steps(t, g.what, second)
			reaches(t, g.what, g.j, k+1, second.State())
		}
		stands(t, g.what+" beside others", second, first.Steps(), first.State(), first.Loss())
	}
}

// To be asked changes nothing.
func TestAskedBetweenSteps(t *testing.T) {
	for _, g := range goodJobs() {
		asked, left := trainer(t, g.what, g.j), trainer(t, g.what, g.j)
		for range 6 {
			for range 3 {
				stands(t, g.what+", asked again", asked, asked.Steps(), asked.State(), asked.Loss())
			}
			steps(t, g.what, asked)
			steps(t, g.what, left)
		}
		stands(t, g.what+", asked between steps", asked, 6, left.State(), left.Loss())
	}
}
