package solo_test

import (
	"fmt"
	"slices"
	"testing"

	"carousel/api"
	"carousel/grad"
	"carousel/model"
	"carousel/solo"
)

func TestGoodJobs(t *testing.T) {
	for _, g := range goodJobs() {
		begins(t, g.what, g.j)
	}
	for _, p := range []api.Fix{1, -1, top, low} {
		begins(t, "any parameters", with(line(), func(j *solo.Job) { j.P = []api.Fix{p, -p} }))
	}
	begins(t, "what does not count", with(line(), func(j *solo.Job) { j.Data[1].Class = -7 }))
	begins(t, "what does not count", with(classes(), func(j *solo.Job) { j.Data[1].Y = whole(1, 2, 3, 4) }))
}

// wrong is a change that a job is refused for.
type wrong struct {
	what   string
	change func(j *solo.Job)
	err    api.Errno
}

func netOf(in []int, l ...model.Layer) func(j *solo.Job) {
	return func(j *solo.Job) { j.Net = model.Net{In: in, Layers: l} }
}

// wrongNets are those that Shapes refuses.
func wrongNets() []wrong {
	bend, skip := model.Layer{Kind: "bend", A: 1}, model.Layer{Kind: "skip"}
	return []wrong{
		{"no net", netOf(nil), api.EARG},
		{"nothing in", netOf([]int{0}), api.EARG},
		{"no kind of layer", netOf([]int{1}, model.Layer{Kind: "what"}), api.EARG},
		{"no number of a layer", netOf([]int{1}, model.Layer{Kind: "dense", A: 257}), api.EARG},
		{"a skip ahead of all", netOf([]int{1}, skip), api.ESHAPE},
		{"a skip of unlike shapes", netOf([]int{1}, model.Layer{Kind: "dense", A: 2}, skip), api.ESHAPE},
		{"windows over a row", netOf([]int{1}, model.Layer{Kind: "conv", A: 1, B: 1}), api.ESHAPE},
		{"a pool wider than the rows", netOf([]int{1, 1}, model.Layer{Kind: "pool", A: 2}), api.ESHAPE},
		{"too many layers", netOf([]int{1}, slices.Repeat([]model.Layer{bend}, 17)...), api.ELIMIT},
		{"too many parameters", netOf([]int{16}, model.Layer{Kind: "dense", A: 256}), api.ELIMIT},
	}
}

// repeated is so many examples, each of which a line may have.
func repeated(many int) []grad.Example { return slices.Repeat(line().Data[:1], many) }

// wrongNumbers are those that are told behind the net's error and ahead of the examples' one.
func wrongNumbers() []wrong {
	all := []wrong{
		{"kind 0", func(j *solo.Job) { j.Kind = 0 }, api.EARG},
		{"kind 4", func(j *solo.Job) { j.Kind = 4 }, api.EARG},
		{"no Data", func(j *solo.Job) { j.Data = nil }, api.EARG},
		{"no Data but spare room", func(j *solo.Job) { j.Data = j.Data[:0] }, api.EARG},
		{"no Data, and a batch of none", func(j *solo.Job) { j.Data, j.Batch = nil, 0 }, api.EARG},
		{"one example too many", func(j *solo.Job) { j.Data = append(j.Data, repeated(api.MaxData+1-len(j.Data))...) }, api.EARG},
		{"twice as many examples", func(j *solo.Job) { j.Data = append(j.Data, repeated(2*api.MaxData-len(j.Data))...) }, api.EARG},
		{"far too many examples", func(j *solo.Job) { j.Data = append(j.Data, repeated(1<<16)...) }, api.EARG},
		{"a batch of none", func(j *solo.Job) { j.Batch = 0 }, api.EARG},
		{"a batch of one more", func(j *solo.Job) { j.Batch = len(j.Data) + 1 }, api.EARG},
		{"a batch beyond Data with spare room", func(j *solo.Job) { j.Data, j.Batch = j.Data[:2], 3 }, api.EARG},
		{"a bound of -1", func(j *solo.Job) { j.Rate.Bound = -1 }, api.EARG},
		{"a bound of less than none", func(j *solo.Job) { j.Rate.Bound = -one }, api.EARG},
		{"the least bound", func(j *solo.Job) { j.Rate.Bound = low }, api.EARG},
		{"a parameter too few", func(j *solo.Job) { j.P = j.P[:len(j.P)-1] }, api.EARG},
		{"a parameter too many", func(j *solo.Job) { j.P = append(j.P, 0) }, api.EARG},
		{"no parameters", func(j *solo.Job) { j.P = nil }, api.EARG},
		{"far too many parameters", func(j *solo.Job) { j.P = make([]api.Fix, 1<<16+len(j.P)) }, api.EARG},
	}
	for _, n := range noCounts() {
		all = append(all,
			wrong{fmt.Sprint("kind ", n), func(j *solo.Job) { j.Kind = n }, api.EARG},
			wrong{fmt.Sprint("a batch of ", n), func(j *solo.Job) { j.Batch = n }, api.EARG})
	}
	return all
}

func TestNoNet(t *testing.T) {
	for _, w := range wrongNets() {
		refuses(t, w.what, with(line(), w.change), w.err)
		refuses(t, w.what, with(classes(), w.change), w.err)
		refuses(t, w.what+" alone", with(solo.Job{}, w.change), w.err)
	}
	refuses(t, "nothing at all", solo.Job{}, api.EARG)
}

func TestNoNumbers(t *testing.T) {
	for _, w := range wrongNumbers() {
		refuses(t, w.what, with(line(), w.change), w.err)
		refuses(t, w.what, with(classes(), w.change), w.err)
		refuses(t, w.what, with(deep(), w.change), w.err)
	}
	refuses(t, "a parameter of a net without", with(still(3, 1), func(j *solo.Job) { j.P = whole(1) }), api.EARG)
}

func TestEachKind(t *testing.T) {
	for kind := square; kind <= hinge; kind++ {
		j := line()
		j.Kind = kind
		begins(t, fmt.Sprint("kind ", kind), j)
	}
}

func TestHowManyData(t *testing.T) {
	for many := 1; many <= api.MaxData; many++ {
		if many > 4 && many < api.MaxData-2 && many%50 != 0 {
			continue
		}
		j := line()
		j.Data = repeated(many)
		for _, batch := range []int{1, (many + 1) / 2, many} {
			j.Batch = batch
			begins(t, fmt.Sprintf("%d of %d", batch, many), j)
		}
		for _, batch := range []int{-1, 0, many + 1} {
			j.Batch = batch
			refuses(t, fmt.Sprintf("%d of %d", batch, many), j, api.EARG)
		}
	}
}

func TestAnyRateButABoundBelowNone(t *testing.T) {
	for _, v := range []api.Fix{0, 1, -1, one, -one, top, low} {
		for _, bound := range []api.Fix{0, 1, one, top} {
			j := line()
			j.Rate.Step, j.Rate.Keep, j.Rate.Bound = v, -v, bound
			begins(t, fmt.Sprint("rate ", j.Rate), j)
		}
	}
}

// wrongExamples are those that grad's Of refuses; the ESHAPE ones are of classes' net.
func wrongExamples() []wrong {
	of := func(e grad.Example) func(j *solo.Job) {
		return func(j *solo.Job) { j.Data[1] = e }
	}
	return []wrong{
		{"one in", of(ofClass(whole(1), 0)), api.EARG},
		{"three in", of(ofClass(whole(1, 2, 3), 0)), api.EARG},
		{"nothing in", of(ofClass(nil, 0)), api.EARG},
		{"nothing in, no class", of(ofClass(nil, 3)), api.EARG},
		{"class 3", of(ofClass(whole(1, 2), 3)), api.ESHAPE},
		{"class -1", of(ofClass(whole(1, 2), -1)), api.ESHAPE},
		{"class 2^32", of(ofClass(whole(1, 2), 1<<32)), api.ESHAPE},
	}
}

func TestNoExample(t *testing.T) {
	for _, w := range wrongExamples() {
		refuses(t, w.what, with(classes(), w.change), w.err)
		// It is asked for whatever the batch is: an example that comes first behind many steps too.
		for batch := 1; batch <= 5; batch++ {
			refuses(t, w.what, with(classes(), func(j *solo.Job) { w.change(j); j.Batch = batch }), w.err)
		}
		for place := range 5 {
			refuses(t, fmt.Sprint(w.what, " at ", place), with(classes(), func(j *solo.Job) {
				w.change(j)
				j.Data[1], j.Data[place] = classes().Data[1], j.Data[1]
			}), w.err)
		}
	}
	for _, kind := range []int{square, size} {
		for _, y := range [][]api.Fix{nil, whole(1, 2), make([]api.Fix, 2, 5), make([]api.Fix, 1<<16+1)} {
			j := line()
			j.Kind, j.Data[3].Y = kind, y
			refuses(t, fmt.Sprintf("%d wanted, kind %d", len(y), kind), j, api.EARG)
		}
	}
}

// The last one of as many as may be.
func TestNoLastExample(t *testing.T) {
	j := line()
	j.Kind, j.Data = hinge, repeated(api.MaxData)
	begins(t, "a class each", j)
	j.Data[api.MaxData-1].Class = 1
	refuses(t, "no class at the end", j, api.ESHAPE)
	j.Data[api.MaxData-2].X = nil
	refuses(t, "nothing in ahead of it", j, api.EARG)
}

// The first example's error is told, whatever is wrong with those behind it.
func TestTheFirstOfSeveralExamples(t *testing.T) {
	none, noClass := ofClass(nil, 0), ofClass(whole(1, 2), 3)
	for first := range 4 {
		for second := first + 1; second < 5; second++ {
			what := fmt.Sprintf("examples %d and %d", first, second)
			refuses(t, what, with(classes(), func(j *solo.Job) { j.Data[first], j.Data[second] = none, noClass }), api.EARG)
			refuses(t, what, with(classes(), func(j *solo.Job) { j.Data[first], j.Data[second] = noClass, none }), api.ESHAPE)
		}
	}
}

// No loss fits what comes out with two sides, but how many are wanted is asked for ahead.
func TestTwoSides(t *testing.T) {
	j := solo.Job{Net: net("in 1 2 bend 1"), Batch: 1, Data: []grad.Example{toward(whole(1, 2), whole(1, 2))}}
	for kind := square; kind <= hinge; kind++ {
		j.Kind = kind
		refuses(t, fmt.Sprint("two sides, kind ", kind), j, api.ESHAPE)
	}
	j.Kind, j.Data[0].Y = square, whole(1)
	refuses(t, "two sides, one wanted", j, api.EARG)
}

// The net's error is told ahead of all others, and an example's behind them.
func TestWhichError(t *testing.T) {
	for _, n := range wrongNets() {
		for _, w := range slices.Concat(wrongNumbers(), wrongExamples()) {
			refuses(t, n.what+", "+w.what, with(with(classes(), w.change), n.change), n.err)
		}
	}
	for _, w := range wrongNumbers() {
		for _, e := range wrongExamples() {
			refuses(t, w.what+", "+e.what, with(with(classes(), e.change), w.change), api.EARG)
		}
	}
}
