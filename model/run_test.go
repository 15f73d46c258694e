package model_test

import (
	"fmt"
	"slices"
	"testing"

	"carousel/api"
	"carousel/model"
	"carousel/tape"
)

func tensor(d []int, v ...api.Fix) api.Tensor { return api.Tensor{Dims: d, V: v} }

func line(v ...api.Fix) api.Tensor { return tensor([]int{len(v)}, v...) }

func leaf(t api.Tensor) tape.Node { return tape.Node{Op: 1, A: -1, B: -1, T: t} }

// ran is a run, with what it must leave on an empty tape.
type ran struct {
	text   string
	p, x   []api.Fix
	nodes  []tape.Node
	params []int
}

// ofOneLayer runs each kind of layer, or none at all, by hand-made numbers.
func ofOneLayer() []ran {
	x, two := line(whole(7, 8)...), tensor([]int{2, 2}, whole(1, -2, 3, 4)...)
	long := tensor([]int{1, 5}, whole(1, 5, 2, 4, 9)...)
	matrix, small := tensor([]int{3, 2}, whole(1, 2, 3, -4, 5, 6)...), line(whole(10, 20, 30)...)
	wide := tensor([]int{1, 4}, whole(1, 10, 100, 1000)...)
	window := tensor([]int{1, 2, 2}, whole(1, 10, 100, 1000)...)
	pair := tensor([]int{2, 1, 2}, whole(1, 1, 1, -1)...)
	return []ran{
		{"in 2", nil, x.V, []tape.Node{leaf(x)}, nil},
		{"in 2 2", nil, two.V, []tape.Node{leaf(two)}, nil},
		{"in 2 dense 3", whole(1, 2, 3, -4, 5, 6, 10, 20, 30), x.V, []tape.Node{
			leaf(x), leaf(matrix), leaf(small),
			{Op: 4, A: 1, B: 0, T: tensor([]int{3, 2}, whole(7, 16, 21, -32, 35, 48)...)},
			{Op: 8, A: 3, B: -1, K: 1, T: line(whole(23, -11, 83)...)},
			{Op: 2, A: 4, B: 2, T: line(whole(33, 9, 113)...)},
		}, []int{1, 2}},
		{"in 2 2 dense 1", whole(1, 10, 100, 1000, 5), two.V, []tape.Node{
			leaf(two), leaf(wide), leaf(line(whole(5)...)),
			{Op: 14, A: 0, B: -1, T: line(two.V...)},
			{Op: 4, A: 1, B: 3, T: tensor([]int{1, 4}, whole(1, -20, 300, 4000)...)},
			{Op: 8, A: 4, B: -1, K: 1, T: line(whole(4281)...)},
			{Op: 2, A: 5, B: 2, T: line(whole(4286)...)},
		}, []int{1, 2}},
		{"in 2 2 conv 1 2", window.V, two.V, []tape.Node{
			leaf(two), leaf(window),
			{Op: 12, A: 0, B: 1, K: 1, T: tensor([]int{1, 1}, whole(4281)...)},
		}, []int{1}},
		{"in 1 5 conv 2 2", pair.V, long.V, []tape.Node{
			leaf(long), leaf(pair),
			{Op: 12, A: 0, B: 1, K: 1, T: tensor([]int{2, 4}, whole(6, 7, 6, 13, -4, 3, -2, -5)...)},
		}, []int{1}},
		{"in 1 5 pool 2", nil, long.V, []tape.Node{leaf(long), {Op: 13, A: 0, B: -1, K: 2, T: tensor([]int{1, 2}, whole(5, 4)...)}}, nil},
		{"in 2 2 pool 2", nil, two.V, []tape.Node{leaf(two), {Op: 13, A: 0, B: -1, K: 2, T: tensor([]int{2, 1}, whole(1, 4)...)}}, nil},
		{"in 2 2 bend 1", nil, two.V, []tape.Node{leaf(two), {Op: 11, A: 0, B: -1, K: 1, T: tensor([]int{2, 2}, whole(1, 0, 3, 4)...)}}, nil},
		{"in 2 bend 3", nil, x.V, []tape.Node{leaf(x), {Op: 11, A: 0, B: -1, K: 3, T: line(whole(1, 1)...)}}, nil},
		{"in 2 2 bend 4 skip", nil, two.V, []tape.Node{
			leaf(two), {Op: 11, A: 0, B: -1, K: 4, T: tensor([]int{2, 2}, whole(1, 2, 3, 4)...)},
			{Op: 2, A: 0, B: 1, T: tensor([]int{2, 2}, whole(2, 0, 6, 8)...)},
		}, nil},
	}
}

// ofSeveralLayers has layers behind one another, each with its own parameters.
func ofSeveralLayers() []ran {
	return []ran{
		{"in 2 dense 2 skip dense 1", whole(1, 2, 3, -4, 10, 20, 1, 2, 5), whole(7, 8), []tape.Node{
			leaf(line(whole(7, 8)...)), leaf(tensor([]int{2, 2}, whole(1, 2, 3, -4)...)), leaf(line(whole(10, 20)...)),
			{Op: 4, A: 1, B: 0, T: tensor([]int{2, 2}, whole(7, 16, 21, -32)...)},
			{Op: 8, A: 3, B: -1, K: 1, T: line(whole(23, -11)...)},
			{Op: 2, A: 4, B: 2, T: line(whole(33, 9)...)},
			{Op: 2, A: 0, B: 5, T: line(whole(40, 17)...)},
			leaf(tensor([]int{1, 2}, whole(1, 2)...)), leaf(line(whole(5)...)),
			{Op: 4, A: 7, B: 6, T: tensor([]int{1, 2}, whole(40, 34)...)},
			{Op: 8, A: 9, B: -1, K: 1, T: line(whole(74)...)},
			{Op: 2, A: 10, B: 8, T: line(whole(79)...)},
		}, []int{1, 2, 7, 8}},
		{"in 1 3 conv 1 1 skip bend 4 skip pool 3", whole(2), whole(1, -2, 3), []tape.Node{
			leaf(tensor([]int{1, 3}, whole(1, -2, 3)...)), leaf(tensor([]int{1, 1, 1}, whole(2)...)),
			{Op: 12, A: 0, B: 1, K: 1, T: tensor([]int{1, 3}, whole(2, -4, 6)...)},
			{Op: 2, A: 0, B: 2, T: tensor([]int{1, 3}, whole(3, -6, 9)...)},
			{Op: 11, A: 3, B: -1, K: 4, T: tensor([]int{1, 3}, whole(3, 6, 9)...)},
			{Op: 2, A: 3, B: 4, T: tensor([]int{1, 3}, whole(6, 0, 18)...)},
			{Op: 13, A: 5, B: -1, K: 3, T: tensor([]int{1, 1}, whole(18)...)},
		}, []int{1}},
		{"in 1 3 conv 1 2 pool 2 dense 1", whole(1, 1, 2, 3), whole(1, 2, 3), []tape.Node{
			leaf(tensor([]int{1, 3}, whole(1, 2, 3)...)), leaf(tensor([]int{1, 1, 2}, whole(1, 1)...)),
			{Op: 12, A: 0, B: 1, K: 1, T: tensor([]int{1, 2}, whole(3, 5)...)},
			{Op: 13, A: 2, B: -1, K: 2, T: tensor([]int{1, 1}, whole(5)...)},
			leaf(tensor([]int{1, 1}, whole(2)...)), leaf(line(whole(3)...)),
			{Op: 14, A: 3, B: -1, T: line(whole(5)...)},
			{Op: 4, A: 4, B: 6, T: tensor([]int{1, 1}, whole(10)...)},
			{Op: 8, A: 7, B: -1, K: 1, T: line(whole(10)...)},
			{Op: 2, A: 8, B: 5, T: line(whole(13)...)},
		}, []int{1, 4, 5}},
	}
}

func allRuns() []ran { return slices.Concat(ofOneLayer(), ofSeveralLayers()) }

// behind tells a node, or a list of them, as it is on a tape with so many nodes ahead.
func behind(many int, nodes []tape.Node, params []int) ([]tape.Node, []int) {
	var moved []tape.Node
	for _, n := range nodes {
		if n.A >= 0 {
			n.A += many
		}
		if n.B >= 0 {
			n.B += many
		}
		moved = append(moved, n)
	}
	var places []int
	for _, v := range params {
		places = append(places, v+many)
	}
	return moved, places
}

func holdRun(t *testing.T, x *tape.Tape, c ran) {
	t.Helper()
	was := nodesOf(x)
	nodes, params := behind(len(was), c.nodes, c.params)
	out, got, err := model.Run(x, net(t, c.text), c.p, c.x)
	if err != api.OK || out != len(was)+len(nodes)-1 || !slices.Equal(got, params) {
		t.Errorf("P12.2: Run of %q behind %d nodes: %d, %v, %d, want %d, %v", c.text, len(was), out, got, err, len(was)+len(nodes)-1, params)
	}
	holds(t, fmt.Sprintf("%q behind %d nodes", c.text, len(was)), x, append(was, nodes...))
}

func TestRun(t *testing.T) {
	for _, c := range allRuns() {
		holdRun(t, tape.New(), c)
	}
}

// Nodes that are on the tape already stay, whatever they are, and are not taken for the net's own.
func TestRunBehindOtherNodes(t *testing.T) {
	for _, many := range []int{1, 2, 100} {
		for _, c := range allRuns() {
			holdRun(t, tapeOf(t, many), c)
		}
	}
	x := tape.New()
	for _, c := range allRuns() {
		holdRun(t, x, c)
	}
	for _, c := range allRuns() {
		holdRun(t, x, c)
	}
}

func TestRunRoundsAsTheTapeDoes(t *testing.T) {
	// Each product is rounded on its own, and only then summed: a half and a half of a part are none.
	x := tape.New()
	out, _, err := model.Run(x, net(t, "in 2 dense 1"), []api.Fix{1, 1, 0}, []api.Fix{one / 2, one / 2})
	if v, ok := x.Value(out); err != api.OK || !ok || !alike(v, line(0)) {
		t.Errorf("P12.2: halves of a part: %v, %d, want 0", v, err)
	}
	// A sum along a side is held once, at its end; what is added behind it is held again.
	y := tape.New()
	out, _, err = model.Run(y, net(t, "in 3 dense 1"), append([]api.Fix{one, one, one}, -1), []api.Fix{api.Top, api.Top, -api.Top})
	if v, ok := y.Value(out); err != api.OK || !ok || !alike(v, line(api.Top-1)) {
		t.Errorf("P12.2: sums at the bounds: %v, %d, want one below the top", v, err)
	}
}

func unrun(t *testing.T, what string, x *tape.Tape, n model.Net, p, in []api.Fix, wanted api.Errno) {
	t.Helper()
	was := nodesOf(x)
	if out, params, err := model.Run(x, n, p, in); out != 0 || len(params) != 0 || err != wanted {
		t.Errorf("P12.2: %s: %d, %v, %d, want 0, none, %d", what, out, params, err, wanted)
	}
	holds(t, what, x, was)
}

func TestHowManyNumbersRunTakes(t *testing.T) {
	for _, c := range allRuns() {
		n := net(t, c.text)
		for _, off := range []int{-2, -1, 1, 2, 100, 5000} {
			p, x := c.p, c.x
			if len(p)+off >= 0 {
				p = make([]api.Fix, len(p)+off)
				unrun(t, fmt.Sprintf("%q with %d more parameters", c.text, off), tapeOf(t, 3), n, p, c.x, api.EARG)
			}
			if len(x)+off >= 0 {
				x = make([]api.Fix, len(x)+off)
				unrun(t, fmt.Sprintf("%q with %d more numbers in", c.text, off), tapeOf(t, 3), n, c.p, x, api.EARG)
				unrun(t, fmt.Sprintf("%q with %d more of both", c.text, off), tapeOf(t, 3), n, p, x, api.EARG)
			}
		}
		unrun(t, fmt.Sprintf("%q with nothing in", c.text), tapeOf(t, 3), n, c.p, nil, api.EARG)
		// As many in all, but not where they belong.
		unrun(t, fmt.Sprintf("%q with one moved", c.text), tapeOf(t, 3), n, append(slices.Clone(c.p), 1), c.x[1:], api.EARG)
		// Spare room is none.
		unrun(t, fmt.Sprintf("%q with spare room", c.text), tapeOf(t, 3), n, c.p, slices.Clone(c.x)[:len(c.x)-1], api.EARG)
	}
}

// A net wants just as much room as it has nodes: with one place less the tape stays as it was.
func TestAFullTape(t *testing.T) {
	for _, c := range allRuns() {
		n, wants := net(t, c.text), len(c.nodes)
		holdRun(t, tapeOf(t, api.MaxOps-wants), c)
		for room := range wants {
			unrun(t, fmt.Sprintf("%q with room for %d nodes", c.text, room), tapeOf(t, api.MaxOps-room), n, c.p, c.x, api.ELIMIT)
		}
	}
}

// Behind a Run that the tape had no room for, the tape takes what it has room for.
func TestRunAgainBehindAFullTape(t *testing.T) {
	x := tapeOf(t, api.MaxOps-3)
	unrun(t, "six nodes for three", x, net(t, "in 2 dense 1"), whole(1, 2, 3), whole(1, 2), api.ELIMIT)
	holdRun(t, x, ofOneLayer()[4])
}

func TestWhichErrorRunTells(t *testing.T) {
	full := tapeOf(t, api.MaxOps)
	unrun(t, "no net, on a full tape", full, model.Net{}, nil, nil, api.EARG)
	unrun(t, "a misfit, on a full tape", full, row(2, skip()), whole(1), whole(1), api.ESHAPE)
	unrun(t, "a great net, on a full tape", full, row(1024, dense(4)), whole(1), whole(1), api.ELIMIT)
	unrun(t, "a great net, on an empty tape", tape.New(), row(1024, dense(4)), whole(1), whole(1), api.ELIMIT)
	unrun(t, "a misfit, with too few numbers", tape.New(), row(2, skip()), nil, nil, api.ESHAPE)
	unrun(t, "too few numbers in, on a full tape", full, row(2), nil, whole(1), api.EARG)
	unrun(t, "too many numbers in, on a full tape", full, row(2), nil, whole(1, 2, 3), api.EARG)
	unrun(t, "too few parameters, on a full tape", full, row(2, dense(1)), whole(1, 2), whole(1, 2), api.EARG)
	unrun(t, "too many parameters, on a full tape", full, row(2), whole(1), whole(1, 2), api.EARG)
	unrun(t, "a full tape", full, row(2), nil, whole(1, 2), api.ELIMIT)
}

// The greatest net: 16 layers, and as many nodes as layers can have.
func TestSixteenLayers(t *testing.T) {
	n := row(2, again(16, dense(2))...)
	p := make([]api.Fix, 16*6)
	for i := range 16 {
		copy(p[i*6:], whole(0, 1, 1, 1, 0, 0))
	}
	x := tapeOf(t, api.MaxOps-81)
	out, params, err := model.Run(x, n, p, whole(0, 1))
	v, _ := x.Value(out)
	// Each layer tells the second, and the sum: so they go the way of Fibonacci's numbers.
	if err != api.OK || out != api.MaxOps-1 || len(params) != 32 || !alike(v, line(whole(987, 1597)...)) {
		t.Errorf("P12.2: sixteen layers: %d, %v, %d, %v", out, params, err, v)
	}
	for i, at := range params {
		if at != api.MaxOps-81+1+i/2*5+i%2 {
			t.Errorf("P12.2: sixteen layers: the %d-th Leaf is node %d", i, at)
		}
	}
}
