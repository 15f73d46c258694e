package loss_test

import (
	"slices"
	"testing"

	"carousel/api"
	"carousel/loss"
	"carousel/tape"
)

// out stands for the row's own node, wherever that is, in nodes that are told by hand.
const out = -2

// made is a call, with what it must leave behind the nodes that are there: A and B are counted from
// the first new node on.
type made struct {
	what  string
	row   []api.Fix
	f     call
	nodes []tape.Node
}

func squares() []made {
	return []made{
		{"Square of 3, 1", whole(3), square(whole(1)...), []tape.Node{
			leaf(line(whole(1)...)), {Op: 3, A: out, B: 0, T: line(whole(2)...)},
			{Op: 4, A: 1, B: 1, T: line(whole(4)...)}, {Op: 10, A: 2, B: -1, T: number(4 * one)},
		}},
		{"Square of 1 2 -5, 4 2 -3", whole(1, 2, -5), square(whole(4, 2, -3)...), []tape.Node{
			leaf(line(whole(4, 2, -3)...)), {Op: 3, A: out, B: 0, T: line(whole(-3, 0, -2)...)},
			{Op: 4, A: 1, B: 1, T: line(whole(9, 0, 4)...)}, {Op: 10, A: 2, B: -1, T: number(18611524949)},
		}},
	}
}

func sizes() []made {
	return []made{
		{"Size of 3, 7", whole(3), size(whole(7)...), []tape.Node{
			leaf(line(whole(7)...)), {Op: 3, A: out, B: 0, T: line(whole(-4)...)},
			{Op: 11, A: 1, B: -1, K: 4, T: line(whole(4)...)}, {Op: 10, A: 2, B: -1, T: number(4 * one)},
		}},
		{"Size of 1 2 -5, 4 2 -7", whole(1, 2, -5), size(whole(4, 2, -7)...), []tape.Node{
			leaf(line(whole(4, 2, -7)...)), {Op: 3, A: out, B: 0, T: line(whole(-3, 0, 2)...)},
			{Op: 11, A: 1, B: -1, K: 4, T: line(whole(3, 0, 2)...)}, {Op: 10, A: 2, B: -1, T: number(7158278827)},
		}},
	}
}

func hinges() []made {
	return []made{
		{"Hinge of 7, 0", whole(7), hinge(0), []tape.Node{
			leaf(line(-one)), leaf(line(0)),
			{Op: 4, A: out, B: 0, T: line(whole(-7)...)}, {Op: 9, A: 2, B: -1, T: number(-7 * one)},
			{Op: 2, A: out, B: 3, T: line(0)}, {Op: 2, A: 4, B: 1, T: line(0)},
			{Op: 11, A: 5, B: -1, K: 1, T: line(0)}, {Op: 4, A: 6, B: 1, T: line(0)}, {Op: 9, A: 7, B: -1, T: number(0)},
		}},
		{"Hinge of 5 3 9, 0", whole(5, 3, 9), hinge(0), []tape.Node{
			leaf(line(whole(-1, 0, 0)...)), leaf(line(whole(0, 1, 1)...)),
			{Op: 4, A: out, B: 0, T: line(whole(-5, 0, 0)...)}, {Op: 9, A: 2, B: -1, T: number(-5 * one)},
			{Op: 2, A: out, B: 3, T: line(whole(0, -2, 4)...)}, {Op: 2, A: 4, B: 1, T: line(whole(0, -1, 5)...)},
			{Op: 11, A: 5, B: -1, K: 1, T: line(whole(0, 0, 5)...)}, {Op: 4, A: 6, B: 1, T: line(whole(0, 0, 5)...)},
			{Op: 9, A: 7, B: -1, T: number(5 * one)},
		}},
		{"Hinge of 5 3 -4, 1", whole(5, 3, -4), hinge(1), []tape.Node{
			leaf(line(whole(0, -1, 0)...)), leaf(line(whole(1, 0, 1)...)),
			{Op: 4, A: out, B: 0, T: line(whole(0, -3, 0)...)}, {Op: 9, A: 2, B: -1, T: number(-3 * one)},
			{Op: 2, A: out, B: 3, T: line(whole(2, 0, -7)...)}, {Op: 2, A: 4, B: 1, T: line(whole(3, 0, -6)...)},
			{Op: 11, A: 5, B: -1, K: 1, T: line(whole(3, 0, 0)...)}, {Op: 4, A: 6, B: 1, T: line(whole(3, 0, 0)...)},
			{Op: 9, A: 7, B: -1, T: number(3 * one)},
		}},
		{"Hinge of 5 3 -4, 2", whole(5, 3, -4), hinge(2), []tape.Node{
			leaf(line(whole(0, 0, -1)...)), leaf(line(whole(1, 1, 0)...)),
			{Op: 4, A: out, B: 0, T: line(whole(0, 0, 4)...)}, {Op: 9, A: 2, B: -1, T: number(4 * one)},
			{Op: 2, A: out, B: 3, T: line(whole(9, 7, 0)...)}, {Op: 2, A: 4, B: 1, T: line(whole(10, 8, 0)...)},
			{Op: 11, A: 5, B: -1, K: 1, T: line(whole(10, 8, 0)...)}, {Op: 4, A: 6, B: 1, T: line(whole(10, 8, 0)...)},
			{Op: 9, A: 7, B: -1, T: number(18 * one)},
		}},
	}
}

func allMade() []made { return slices.Concat(squares(), sizes(), hinges()) }

// behind tells nodes as they are on a tape with so many nodes ahead, of the node row.
func behind(many, row int, nodes []tape.Node) []tape.Node {
	place := func(n int) int {
		switch {
		case n == out:
			return row
		case n >= 0:
			return many + n
		}
		return n
	}
	var moved []tape.Node
	for _, n := range nodes {
		n.A, n.B = place(n.A), place(n.B)
		moved = append(moved, n)
	}
	return moved
}

func TestNodesOfARowAlone(t *testing.T) {
	for _, c := range allMade() {
		told(t, c.what, laidOut(t, line(c.row...)), 0, c.f, behind(1, 0, c.nodes))
	}
}

// The row may stand anywhere, and only the row counts.
func TestNodesAmongOthers(t *testing.T) {
	for _, c := range allMade() {
		others := []api.Tensor{line(whole(8, 8, 8)...), number(3), tensor([]int{1, 3}, 1, 2, 3), line(6), line(whole(1, 0, -1)...)}
		for at := range len(others) + 1 {
			x := laidOut(t, slices.Insert(slices.Clone(others), at, line(c.row...))...)
			told(t, c.what, x, at, c.f, behind(x.Len(), at, c.nodes))
		}
	}
}

// The row may be reckoned, and several losses may stand on one tape, of one row.
func TestNodesOfAReckonedRow(t *testing.T) {
	for _, c := range allMade() {
		x := laidOut(t, tensor([]int{len(c.row), 1}, c.row...), number(0))
		x.Do(14, 0, 0, 0)
		x.Do(2, 1, 2, 0)
		for range 3 {
			told(t, c.what, x, 3, c.f, behind(x.Len(), 3, c.nodes))
			told(t, c.what, x, 2, c.f, behind(x.Len(), 2, c.nodes))
		}
	}
}

func TestChaptersExample(t *testing.T) {
	x := laidOut(t, line(3*one))
	n, err := loss.Square(x, 0, []api.Fix{one})
	if v, ok := x.Value(n); err != api.OK || n != 4 || !ok || !alike(v, number(4*one)) {
		t.Errorf("P13.1: Square of out 3, want 1: node %d, %d, %v, want node 4, 4", n, err, v)
	}
}

func TestMeansAreRoundedOnce(t *testing.T) {
	for _, c := range []struct {
		row    []api.Fix
		wanted api.Fix
	}{
		{[]api.Fix{1, 0}, 0}, {[]api.Fix{1, 1}, 1}, {[]api.Fix{3, 0}, 2}, {[]api.Fix{5, 0}, 2}, {[]api.Fix{-3, 0}, 2}, {[]api.Fix{-5, 0}, 2},
		{[]api.Fix{1, 0, 0}, 0}, {[]api.Fix{1, -1, 0}, 1}, {[]api.Fix{2, 2, 0}, 1}, {[]api.Fix{2, 2, 1}, 2},
	} {
		comesTo(t, "Size of few parts", c.row, size(make([]api.Fix, len(c.row))...), c.wanted)
	}
	// The square of 2^16 parts is one part, that of fewer than some 2^15.5 is none.
	for _, c := range []struct {
		row    []api.Fix
		wanted api.Fix
	}{
		{[]api.Fix{1}, 0}, {[]api.Fix{-1}, 0}, {[]api.Fix{46340}, 0}, {[]api.Fix{46341}, 1}, {[]api.Fix{-46341}, 1}, {[]api.Fix{1 << 16}, 1},
		{[]api.Fix{46340, 46340, 46340}, 0}, {[]api.Fix{1 << 16, 0}, 0}, {[]api.Fix{1 << 16, 1 << 17, 1 << 17}, 3}, {[]api.Fix{1 << 17, 1 << 16}, 2}, {[]api.Fix{1 << 16, 1 << 17, 0, 1 << 16}, 2},
	} {
		comesTo(t, "Square of few parts", c.row, square(make([]api.Fix, len(c.row))...), c.wanted)
	}
}

func TestDifferencesAndSquaresAreHeld(t *testing.T) {
	for _, c := range []struct {
		row, want    []api.Fix
		square, size api.Fix
	}{
		{[]api.Fix{top}, []api.Fix{low}, top, top},
		{[]api.Fix{low}, []api.Fix{top}, top, top},
		{[]api.Fix{low}, []api.Fix{0}, top, top},
		{[]api.Fix{0}, []api.Fix{low}, top, top},
		{[]api.Fix{-1}, []api.Fix{top}, top, top},
		{[]api.Fix{low + 1}, []api.Fix{0}, top, top},
		{[]api.Fix{low + 2}, []api.Fix{0}, top, top - 1},
		{[]api.Fix{top - 1}, []api.Fix{0}, top, top - 1},
		{[]api.Fix{top}, []api.Fix{top}, 0, 0},
		{[]api.Fix{low}, []api.Fix{low}, 0, 0},
		// The mean's sum is beyond the top, and is not held on the way.
		{[]api.Fix{top, top, top}, []api.Fix{low, 0, -1}, top, top},
		{[]api.Fix{top, low}, []api.Fix{low, low}, 1 << 62, 1 << 62},
		{[]api.Fix{top, low, top, top}, []api.Fix{top, low, low, top}, 1 << 61, 1 << 61},
	} {
		comesTo(t, "Square at the bounds", c.row, square(c.want...), c.square)
		comesTo(t, "Size at the bounds", c.row, size(c.want...), c.size)
	}
	// 46341 squared is just beyond the greatest number, 46340 squared is not.
	comesTo(t, "Square of 46341", whole(46341), square(0), top)
	comesTo(t, "Square of 46340", whole(46340), square(0), 46340*46340*one)
}

// A class counts as clear of another from One on.
func TestHowFarAClassStandsOut(t *testing.T) {
	for _, c := range []struct {
		gap, wanted api.Fix
	}{
		{one, 0}, {one + 1, 0}, {2 * one, 0}, {100 * one, 0}, {one - 1, 1}, {one / 2, one / 2}, {1, one - 1}, {0, one}, {-1, one + 1}, {-one, 2 * one}, {-7 * one, 8 * one},
	} {
		for _, at := range []api.Fix{0, one, -one, 12345, -5 * one} {
			comesTo(t, "Hinge, the class first", []api.Fix{at + c.gap, at}, hinge(0), c.wanted)
			comesTo(t, "Hinge, the class last", []api.Fix{at, at + c.gap}, hinge(1), c.wanted)
			comesTo(t, "Hinge, the class between", []api.Fix{at, at + c.gap, at}, hinge(1), 2*c.wanted)
			comesTo(t, "Hinge, one far off", []api.Fix{at - 1000*one, at + c.gap, at}, hinge(1), c.wanted)
		}
	}
}

func TestHingeOfOneNumber(t *testing.T) {
	for _, v := range []api.Fix{0, 1, -1, one, -one, 7 * one, top, top - 1, low, low + 1} {
		comesTo(t, "Hinge of one number", []api.Fix{v}, hinge(0), 0)
	}
}

func TestHingeAtTheBounds(t *testing.T) {
	for _, c := range []struct {
		row    []api.Fix
		class  int
		wanted api.Fix
	}{
		{[]api.Fix{top, top}, 0, one},
		// Low turned round is held at Top: one part less than it ought to be.
		{[]api.Fix{low, low}, 0, one - 1},
		{[]api.Fix{low, low, low}, 2, 2*one - 2},
		{[]api.Fix{low, 0}, 0, top},
		{[]api.Fix{0, low}, 0, 0},
		{[]api.Fix{top, low}, 0, 0},
		{[]api.Fix{top, low}, 1, top},
		// What is held on the way stays so: Low and no more, then One above it.
		{[]api.Fix{low, top, low, low}, 1, 0},
		{[]api.Fix{top, 0, top}, 1, top},
		{[]api.Fix{top - one, 0}, 1, top},
		{[]api.Fix{top - one - 1, 0}, 1, top - 1},
		{[]api.Fix{top - one + 1, 0}, 1, top},
		{[]api.Fix{top / 2, 0, top / 2}, 1, top},
		{[]api.Fix{top/2 - one, 0, top/2 - one}, 1, top - 1},
	} {
		comesTo(t, "Hinge at the bounds", c.row, hinge(c.class), c.wanted)
	}
}

// The longest row has a first and a last place too.
func TestLongRows(t *testing.T) {
	long := make([]api.Fix, api.MaxSize)
	for i := range long {
		long[i] = api.Fix(i) * one
	}
	noughts := make([]api.Fix, api.MaxSize)
	comesTo(t, "Size of the longest row", long, size(noughts...), 4095*one/2)
	comesTo(t, "Square of the longest row", long, square(noughts...), 4095*8191*(one/2)/3)
	comesTo(t, "Hinge of the longest row, first", long, hinge(0), (4096*4097/2-1)*one)
	comesTo(t, "Hinge of the longest row, last", long, hinge(4095), 0)
	comesTo(t, "Hinge of the longest row, last but one", long, hinge(4094), 2*one)
	comesTo(t, "Hinge of noughts", noughts, hinge(4095), 4095*one)
}
