package back_test

import (
	"fmt"
	"slices"
	"testing"

	"carousel/api"
)

func TestTheChaptersExample(t *testing.T) {
	x := laidOut(t, number(3*one))
	sweeps(t, "x times x at 3", x, done(t, x, 4, 0, 0, 0), number(6*one), number(one))
}

// Root's gradient is One, in the shape that it has.
func TestRootsOfOneNumber(t *testing.T) {
	for _, d := range [][]int{nil, {1}, {1, 1}, {1, 1, 1}, {1, 1, 1, 1}} {
		x := laidOut(t, filled(3*one, d...))
		sweeps(t, "a leaf", x, 0, filled(one, d...))
		sweeps(t, "x times x", x, done(t, x, 4, 0, 0, 0), filled(6*one, d...), filled(one, d...))
		sweeps(t, "a leaf, used behind root", x, 0, filled(one, d...))
	}
	x := laidOut(t, number(0), number(top), line(low))
	for n := range 3 {
		wanted := []api.Tensor{number(0), number(0), line(0)}[:n+1]
		wanted[n].V[0] = one
		sweeps(t, "a leaf, whatever its number is", x, n, wanted...)
	}
}

// Nodes behind root are not told of, and give nothing, though they are of the same ones.
func TestNodesBehindRoot(t *testing.T) {
	x := laidOut(t, line(2*one, 3*one))
	root := done(t, x, 9, 0, 0, 0)
	wanted := []api.Tensor{line(one, one), number(one)}
	sweeps(t, "ahead of any behind", x, root, wanted...)
	done(t, x, 4, 0, root, 0)
	done(t, x, 9, 2, 0, 0)
	done(t, x, 4, root, root, 0)
	sweeps(t, "with others behind", x, root, wanted...)
}

// A node that nothing was given to gives nothing either, be it used or not.
func TestNodesThatRootIsNotOf(t *testing.T) {
	x := laidOut(t, line(2*one, 3*one), counted(one, 2, 3), number(4*one))
	flipped := done(t, x, 7, 1, 0, 0)
	product := done(t, x, 6, 1, flipped, 0)
	done(t, x, 9, product, 0, 0)
	root := done(t, x, 9, 0, 0, 0)
	sweeps(t, "with others between", x, root, line(one, one), filled(0, 2, 3), number(0), filled(0, 3, 2), filled(0, 2, 2), number(0), number(one))
}

// One that was given noughts has a gradient of noughts, and so have those that it is of.
func TestNoughtsAreGivenOn(t *testing.T) {
	x := laidOut(t, line(2*one, 3*one), line(5*one, 7*one))
	product := done(t, x, 4, 0, 1, 0)
	sum := done(t, x, 9, product, 0, 0)
	nought := done(t, x, 5, sum, 0, 0)
	noughts := line(0, 0)
	sweeps(t, "scaled by 0", x, nought, noughts, noughts, noughts, number(0), number(one))
	both := done(t, x, 2, nought, sum, 0)
	sweeps(t, "scaled by 0, and as it is", x, both, line(5*one, 7*one), line(2*one, 3*one), line(one, one), number(one), number(one), number(one))
	// Below 0 a ramp is flat; at such a place it leans on nothing.
	x = laidOut(t, line(-one, one))
	bent := done(t, x, 11, 0, 0, 1)
	less := done(t, x, 11, done(t, x, 5, bent, 0, -one), 0, 1)
	sweeps(t, "a ramp of what is not above 0", x, done(t, x, 9, less, 0, 0), noughts, noughts, noughts, line(one, one), number(one))
}

// What several nodes give is added up, and so is what one node gives twice.
func TestANodeOfSeveral(t *testing.T) {
	x := laidOut(t, number(3*one), number(5*one))
	product := done(t, x, 4, 0, 1, 0)
	square := done(t, x, 4, 0, 0, 0)
	sum := done(t, x, 2, product, square, 0)
	root := done(t, x, 3, sum, 0, 0)
	sweeps(t, "xy and xx less x", x, root, number(10*one), number(3*one), number(one), number(one), number(one), number(one))
	cube := done(t, x, 4, square, 0, 0)
	sweeps(t, "xxx", x, cube, number(27*one), number(0), number(0), number(3*one), number(0), number(0), number(one))
	twice := done(t, x, 2, cube, cube, 0)
	sweeps(t, "xxx twice", x, twice, number(54*one), number(0), number(0), number(6*one), number(0), number(0), number(2*one), number(one))
	less := done(t, x, 3, cube, cube, 0)
	sweeps(t, "xxx less itself", x, less, number(0), number(0), number(0), number(0), number(0), number(0), number(0), number(0), number(one))
}

// Spread, a node is given what all its places come to.
func TestSpreadNodes(t *testing.T) {
	x := laidOut(t, counted(one, 2, 3), line(one, 10*one, 100*one), number(2*one))
	product := done(t, x, 4, 0, 1, 0)
	more := done(t, x, 2, product, 2, 0)
	root := done(t, x, 9, more, 0, 0)
	sweeps(t, "a matrix, a row and a number", x, root,
		tensor([]int{2, 3}, one, 10*one, 100*one, one, 10*one, 100*one), line(5*one, 7*one, 9*one), number(6*one), filled(one, 2, 3), filled(one, 2, 3), number(one))
}

// sweepsScales sweeps a sum of scales of one leaf, each by its K: so that is what it gives.
func sweepsScales(t *testing.T, wanted api.Fix, k ...api.Fix) {
	t.Helper()
	x := laidOut(t, number(0))
	for _, scale := range k {
		done(t, x, 5, 0, 0, scale)
	}
	root := 1
	for n := 2; n <= len(k); n++ {
		root = done(t, x, 2, root, n, 0)
	}
	sweeps(t, fmt.Sprintf("scales by %v, summed", k), x, root, append([]api.Tensor{number(wanted)}, slices.Repeat([]api.Tensor{number(one)}, root)...)...)
}

// At the bounds the order of what is added is to be seen: the nearest to root gives first.
func TestTheOrderOfNodes(t *testing.T) {
	sweepsScales(t, top-5, -5, top, 7)
	sweepsScales(t, top-5, -5, 7, top)
	sweepsScales(t, top, 7, top, -5)
	sweepsScales(t, top, 7, -5, top)
	sweepsScales(t, top, top, 7, -5)
	sweepsScales(t, top, top, -5, 7)
	sweepsScales(t, low, low, -1, 1)
	sweepsScales(t, low, low, 1, -1)
	sweepsScales(t, low+1, 1, -1, low)
	sweepsScales(t, low+1, 1, low, -1)
	sweepsScales(t, low, -1, 1, low)
	sweepsScales(t, top-1, top, top, low)
	sweepsScales(t, -1, low, top, top)
	sweepsScales(t, top-1, top, low, top)
}

// For A is added first, then for B, where both are one node.
func TestTheOrderOfAAndB(t *testing.T) {
	for _, c := range []struct{ first, wanted api.Fix }{
		{top, top - one},       // One more is held, one less then is not.
		{low, low},             // One more, then one less.
		{top - 5, top - one},   // Here too one more is held.
		{low + 5, low + 5},     // To take one away first would be held.
		{top - one, top - one}, // One more is just Top less nothing, and back.
	} {
		x := laidOut(t, number(0))
		nothing := done(t, x, 3, 0, 0, 0)
		scaled := done(t, x, 5, 0, 0, c.first)
		root := done(t, x, 2, nothing, scaled, 0)
		sweeps(t, "scaled, then less itself", x, root, number(c.wanted), number(one), number(one), number(one))
	}
}

// A is given ahead of B though B stands behind A, or the other way round.
func TestEachIsGivenItsOwn(t *testing.T) {
	x := laidOut(t, number(3*one), number(5*one))
	sweeps(t, "the second less the first", x, done(t, x, 3, 1, 0, 0), number(-one), number(one), number(one))
	sweeps(t, "the first less the second", x, done(t, x, 3, 0, 1, 0), number(one), number(-one), number(0), number(one))
}

// A chain up to MaxOps nodes: each doubles, and from a height on all is held.
func TestAFullTape(t *testing.T) {
	x := laidOut(t, line(1))
	for n := 1; n < api.MaxOps; n++ {
		done(t, x, 2, n-1, n-1, 0)
	}
	for _, root := range []int{0, 1, 30, 31, 32, 100, api.MaxOps - 1} {
		wanted := make([]api.Tensor, root+1)
		for n := range wanted {
			wanted[n] = line(top)
			if root-n < 31 {
				wanted[n] = line(one << (root - n))
			}
		}
		sweeps(t, "a chain of doubles", x, root, wanted...)
	}
	sweepsNothing(t, "behind the last", x, api.MaxOps, api.EARG)
}

// A tape that has grown is swept as it is then.
func TestSweepsBetween(t *testing.T) {
	x := laidOut(t, number(2*one))
	wanted := []api.Tensor{number(one)}
	for n := range 5 {
		sweeps(t, "a power", x, n, wanted...)
		done(t, x, 4, n, 0, 0)
		for i := range wanted {
			wanted[i] = number(0)
		}
		// x to the n-th at 2: its node's number leans on those ahead by powers of 2.
		for i := 1; i <= n; i++ {
			wanted[i] = number(one << (n + 1 - i))
		}
		wanted[0] = number(api.Fix(n+2) << (n + 1) * one)
		wanted = append(wanted, number(one))
	}
}
