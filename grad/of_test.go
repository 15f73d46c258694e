package grad_test

import (
	"fmt"
	"slices"
	"testing"

	"carousel/api"
	"carousel/grad"
)

// made is an example, with what Of must tell of it, reckoned by hand.
type made struct {
	text string
	kind int
	p    []api.Fix
	e    grad.Example
	row  []api.Fix
	far  api.Fix
}

func (c made) what() string { return fmt.Sprintf("%q of kind %d, %v", c.text, c.kind, short(c.e.X)) }

// ofOneLayer has a layer that all three kinds are told of.
func ofOneLayer() []made {
	two, three := whole(1, 2, 3, -4, 10, 20), whole(1, 2, 3, -4, 5, 6, 10, 20, 30)
	in, rows := whole(7, 8), whole(1, -2, 3, 4)
	return []made{
		{"in 1 dense 1", square, whole(2, 1), toward(whole(3), whole(5)), whole(12, 4), 4 * one},
		{"in 1 dense 1", square, whole(2, 1), toward(whole(3), whole(9)), whole(-12, -4), 4 * one},
		{"in 1 dense 1", square, whole(2, 1), toward(whole(3), whole(7)), whole(0, 0), 0},
		{"in 1 dense 1", size, whole(2, 1), toward(whole(3), whole(5)), whole(3, 1), 2 * one},
		{"in 1 dense 1", size, whole(2, 1), toward(whole(3), whole(10)), whole(-3, -1), 3 * one},
		{"in 1 dense 1", size, whole(2, 1), toward(whole(3), whole(7)), whole(0, 0), 0},
		{"in 1 dense 1", hinge, whole(2, 1), ofClass(whole(3), 0), whole(0, 0), 0},
		// 33, 9 come out.
		{"in 2 dense 2", square, two, toward(in, whole(30, 11)), whole(21, 24, -14, -16, 3, -2), 13 * half},
		{"in 2 dense 2", size, two, toward(in, whole(30, 11)), eighths(28, 32, -28, -32, 4, -4), 5 * half},
		{"in 2 dense 2", hinge, two, ofClass(in, 0), whole(0, 0, 0, 0, 0, 0), 0},
		{"in 2 dense 2", hinge, two, ofClass(in, 1), whole(7, 8, -7, -8, 1, -1), 25 * one},
		// 33, 9, 113 come out; a third of one is no whole number of parts.
		{"in 2 dense 3", square, three, toward(in, whole(32, 11, 113)), []api.Fix{
			7 * 2863311530, 8 * 2863311530, -7 * 5726623060, -8 * 5726623060, 0, 0, 2863311530, -5726623060, 0}, 7158278827},
		{"in 2 dense 3", size, three, toward(in, whole(32, 11, 113)), []api.Fix{
			7 * 1431655765, 8 * 1431655765, -7 * 1431655765, -8 * 1431655765, 0, 0, 1431655765, -1431655765, 0}, one},
		{"in 2 dense 3", hinge, three, ofClass(in, 0), whole(-7, -8, 0, 0, 7, 8, -1, 0, 1), 81 * one},
		{"in 2 dense 3", hinge, three, ofClass(in, 1), whole(7, 8, -14, -16, 7, 8, 1, -2, 1), 130 * one},
		{"in 2 dense 3", hinge, three, ofClass(in, 2), whole(0, 0, 0, 0, 0, 0, 0, 0, 0), 0},
		// 4286 comes out.
		{"in 2 2 dense 1", square, whole(1, 10, 100, 1000, 5), toward(rows, whole(4285)), whole(2, -4, 6, 8, 2), one},
		{"in 2 2 dense 1", size, whole(1, 10, 100, 1000, 5), toward(rows, whole(4288)), whole(-1, 2, -3, -4, -1), 2 * one},
		// 16, -16 come out.
		{"in 2 2 dense 2", hinge, whole(1, 1, 1, 3, -1, 0, -1, -3, 2, 0), ofClass(rows, 1), whole(1, -2, 3, 4, -1, 2, -3, -4, 1, -1), 33 * one},
	}
}

// ofSeveralLayers has each kind of layer, ahead of others and behind them.
func ofSeveralLayers() []made {
	two := whole(1, 2, 3, -4, 10, 20)
	bent := func(kind int) string { return fmt.Sprintf("in 1 dense 2 bend %d dense 1", kind) }
	// A half and -2 are bent, and taken 3 and 5 times.
	p, e := eighths(4, -16, 0, 0, 24, 40, 56), toward(whole(1), whole(0))
	return []made{
		{"in 1 3 conv 1 2 dense 1", square, whole(1, 1, 2, 1, 4), toward(whole(1, 2, 3), whole(13)), whole(16, 28, 12, 20, 4), 4 * one},
		{"in 1 4 conv 1 1 pool 2 dense 1", size, whole(2, 1, 3, 0), toward(whole(1, 5, 2, 4), whole(30)), whole(17, 10, 8, 1), 4 * one},
		{"in 1 2 conv 2 1 dense 2", hinge, whole(1, 2, 1, 0, 0, 0, 0, 0, 0, 1, 0, 0), ofClass(whole(3, 4), 0), whole(-3, 4, -3, -4, -6, -8, 3, 4, 6, 8, -1, 1), 6 * one},
		{"in 2 dense 2 skip", square, two, toward(whole(7, 8), whole(38, 18)), whole(14, 16, -7, -8, 2, -1), 5 * half},
		{"in 2 dense 2 skip", hinge, two, ofClass(whole(7, 8), 1), whole(7, 8, -7, -8, 1, -1), 24 * one},
		{"in 1 dense 1 dense 1 skip", size, whole(2, 1, 5, 4), toward(whole(3), whole(50)), whole(-18, -6, -7, -1), 4 * one},
		{"in 1 dense 1 dense 1", square, whole(2, 1, 5, 4), toward(whole(3), whole(38)), whole(30, 10, 14, 2), one},
		{bent(1), size, p, e, eighths(24, 0, 24, 0, 4, 0, 8), 17 * half},
		{bent(2), size, p, e, eighths(24, 5, 24, 5, 4, -2, 8), 29 * half / 2},
		{bent(3), size, p, e, eighths(24, 0, 24, 0, 4, -8, 8), 7 * half},
		{bent(4), size, p, e, eighths(24, -40, 24, -40, 4, 16, 8), 37 * half},
		{bent(5), size, p, e, eighths(12, 0, 12, 0, 6, 0, 8), 37 * half / 2},
	}
}

// ofNoParameters has losses alone.
func ofNoParameters() []made {
	return []made{
		{"in 2", square, nil, toward(whole(7, 8), whole(5, 9)), nil, 5 * half},
		{"in 2", size, nil, toward(whole(7, 8), whole(5, 9)), nil, 3 * half},
		{"in 2", hinge, nil, ofClass(whole(7, 8), 0), nil, 2 * one},
		{"in 2", hinge, nil, ofClass(whole(7, 9), 1), nil, 0},
		{"in 2 bend 4 skip", square, nil, toward(whole(7, -8), whole(10, 2)), nil, 10 * one},
		{"in 3 bend 1", hinge, nil, ofClass(whole(4, -1, 2), 2), nil, 3 * one},
	}
}

func allMade() []made { return slices.Concat(ofOneLayer(), ofSeveralLayers(), ofNoParameters()) }

func TestOf(t *testing.T) {
	for _, c := range allMade() {
		reckons(t, c.what(), net(t, c.text), c.kind, c.p, c.e, c.row, c.far)
	}
}

// By the kind only Y counts, or only Class: the other may be any.
func TestWhatDoesNotCount(t *testing.T) {
	for _, c := range allMade() {
		n := net(t, c.text)
		for _, class := range append(noPlaces(2), 0, 1) {
			if e := c.e; c.kind != hinge {
				e.Class = class
				reckons(t, fmt.Sprintf("%s, class %d", c.what(), class), n, c.kind, c.p, e, c.row, c.far)
			}
		}
		for _, y := range [][]api.Fix{nil, {}, {1}, whole(1, 2), {top, low, 0}, make([]api.Fix, 5000)} {
			if e := c.e; c.kind == hinge {
				e.Y = y
				reckons(t, fmt.Sprintf("%s, %d wanted", c.what(), len(y)), n, c.kind, c.p, e, c.row, c.far)
			}
		}
	}
}

// One call leaves nothing behind for another, nor does a refusal.
func TestOfAgain(t *testing.T) {
	for range 2 {
		for _, c := range allMade() {
			n := net(t, c.text)
			grad.Of(n, 0, c.p, c.e)
			grad.Of(n, c.kind, c.p, grad.Example{})
			reckons(t, c.what(), n, c.kind, c.p, c.e, c.row, c.far)
			reckons(t, c.what(), n, c.kind, c.p, c.e, c.row, c.far)
		}
	}
}

// Products are rounded, and sums held, as the layers below do it.
func TestRoundedAndHeld(t *testing.T) {
	line := net(t, "in 1 dense 1")
	for _, c := range []struct {
		what string
		kind int
		p    []api.Fix
		e    grad.Example
		row  []api.Fix
		far  api.Fix
	}{
		{"a square below a part", square, []api.Fix{0, 0}, toward(whole(0), []api.Fix{1}), []api.Fix{0, -2}, 0},
		{"half a part, to the even one", square, []api.Fix{0, 1}, toward([]api.Fix{one / 4}, []api.Fix{0}), []api.Fix{0, 2}, 0},
		{"one part and a half, to the even one", square, []api.Fix{0, 3}, toward([]api.Fix{one / 4}, []api.Fix{0}), []api.Fix{2, 6}, 0},
		{"a square above the top", square, []api.Fix{0, top}, toward(whole(1), whole(0)), []api.Fix{top, top}, top},
		{"far below what is wanted", square, []api.Fix{0, low}, toward(whole(1), whole(1)), []api.Fix{low, low}, top},
		{"as far off as can be", size, []api.Fix{0, 0}, toward([]api.Fix{top}, []api.Fix{low}), []api.Fix{top, one}, top},
		{"as far off the other way", size, []api.Fix{0, -1}, toward([]api.Fix{low}, []api.Fix{top}), []api.Fix{top, -one}, top},
		{"the least number in", size, []api.Fix{0, 1}, toward([]api.Fix{low}, []api.Fix{0}), []api.Fix{low, one}, 1},
	} {
		reckons(t, c.what, line, c.kind, c.p, c.e, c.row, c.far)
	}
}

// As many parameters as may be, and as many numbers in a row.
func TestGreatNets(t *testing.T) {
	n := net(t, "in 15 dense 256")
	p, e := make([]api.Fix, api.MaxParams), grad.Example{X: make([]api.Fix, 15), Y: make([]api.Fix, 256)}
	row, far := make([]api.Fix, api.MaxParams), api.Fix(0)
	for i := range e.X {
		e.X[i] = api.Fix(i+1) * one
	}
	for o := range e.Y {
		// Each is off by as many as its place tells; the mean is of 256 squares.
		p[256*15+o] = api.Fix(o) * one
		far += api.Fix(o*o) * (one / 256)
		row[256*15+o] = api.Fix(2*o) * (one / 256)
		for i := range e.X {
			row[15*o+i] = api.Fix(2*o*(i+1)) * (one / 256)
		}
	}
	reckons(t, "of 4096 parameters", n, square, p, e, row, far)

	wide := grad.Example{X: make([]api.Fix, 1024), Y: make([]api.Fix, 1024), Class: 1023}
	for i := range wide.X {
		wide.X[i] = -one
	}
	reckons(t, "of 1024 in", net(t, "in 1024"), square, nil, wide, nil, one)
	reckons(t, "of 1024 in", net(t, "in 1024"), size, nil, wide, nil, one)
	reckons(t, "of 1024 in", net(t, "in 1024"), hinge, nil, wide, nil, 1023*one)
}

// Sixteen layers, each of which doubles.
func TestSixteenLayers(t *testing.T) {
	n := row(1, slices.Repeat([]layer{dense(1)}, 16)...)
	var p, wanted []api.Fix
	for i := range 16 {
		p = append(p, whole(2, 0)...)
		wanted = append(wanted, 3<<15*one, 1<<(15-i)*one)
	}
	reckons(t, "sixteen layers", n, size, p, toward(whole(3), whole(1)), wanted, (3<<16-1)*one)
}
