package back_test

import (
	"math/rand"
	"slices"
	"testing"

	"carousel/api"
	"carousel/back"
	"carousel/tape"
)

// net is leaves, and what is reckoned of them: root is its last node.
type net struct {
	leaves []api.Tensor
	steps  [][4]int
}

func (n net) laid(t *testing.T) *tape.Tape {
	t.Helper()
	x := laidOut(t, n.leaves...)
	for _, s := range n.steps {
		done(t, x, s[0], s[1], s[2], api.Fix(s[3]))
	}
	return x
}

// rootWith tells root's number, if one number of one leaf were so much greater.
func (n net) rootWith(t *testing.T, leaf, at int, more api.Fix) api.Fix {
	t.Helper()
	moved := slices.Clone(n.leaves)
	moved[leaf] = copied(moved[leaf])
	moved[leaf].V[at] += more
	x := n.laid(t)
	if more != 0 {
		x = net{moved, n.steps}.laid(t)
	}
	v, _ := x.Value(x.Len() - 1)
	return v.V[0]
}

// strewnHalves has small numbers, each a half away from a whole one: there no line bends.
func strewnHalves(r *rand.Rand, d ...int) api.Tensor {
	t := filled(0, d...)
	for i := range t.V {
		t.V[i] = api.Fix(2*r.Intn(4)-3)*one + half
	}
	return t
}

// nets have a root that, in each single number of a leaf, is a line or a square between bends; all
// Ops are among them.
func nets(r *rand.Rand) []net {
	return []net{
		{ // Windows, pooled, bent, in a row; a matrix times that, summed, and a row; the square of how far off.
			[]api.Tensor{strewnHalves(r, 2, 7), strewnHalves(r, 2, 2, 3), strewnHalves(r, 4, 4), strewnHalves(r, 4), strewnHalves(r, 4)},
			[][4]int{{12, 0, 1, 1}, {13, 5, 0, 2}, {11, 6, 0, 2}, {14, 7, 0, 0}, {4, 2, 8, 0}, {8, 9, 0, 1}, {2, 10, 3, 0}, {3, 11, 4, 0}, {4, 12, 12, 0}, {10, 13, 0, 0}},
		},
		{ // Matrices, turned round, scaled, spread, with a step of 2 and a half of it taken away.
			[]api.Tensor{strewnHalves(r, 3, 4), strewnHalves(r, 3, 2), strewnHalves(r, 2), strewnHalves(r, 1, 2, 1)},
			[][4]int{{7, 0, 0, 0}, {6, 4, 1, 0}, {3, 5, 2, 0}, {7, 6, 0, 0}, {12, 7, 3, 2}, {5, 8, 0, int(half)}, {4, 9, 9, 0}, {9, 10, 0, 0}},
		},
		{ // One node used again and again.
			[]api.Tensor{strewnHalves(r, 2, 2), strewnHalves(r, 2)},
			[][4]int{{2, 0, 1, 0}, {4, 2, 0, 0}, {3, 3, 2, 0}, {2, 4, 4, 0}, {11, 5, 0, 4}, {8, 6, 0, 0}, {2, 7, 1, 0}, {10, 8, 0, 0}},
		},
	}
}

// Where nothing is rounded, the slope between two numbers as far on either side is just the
// gradient, for a line and for a square.
func TestExactSlopes(t *testing.T) {
	r := rand.New(rand.NewSource(5))
	const more = one / 64
	bent, tried := 0, 0
	for range 20 {
		for which, n := range nets(r) {
			x := n.laid(t)
			l, err := back.Sweep(x, x.Len()-1)
			if err != api.OK {
				t.Fatalf("P11.2: Sweep: %d", err)
			}
			for leaf := range n.leaves {
				for at, g := range l[leaf].V {
					tried++
					middle, up, down := n.rootWith(t, leaf, at, 0), n.rootWith(t, leaf, at, more), n.rootWith(t, leaf, at, -more)
					// A line that bends here, or a greatest number that changes, is no line at all.
					far, near := n.rootWith(t, leaf, at, 2*more), n.rootWith(t, leaf, at, -2*more)
					if far-2*up+middle != up-2*middle+down || up-2*middle+down != middle-2*down+near {
						bent++
						continue
					}
					if slope := (up - down) * (one / more) / 2; slope != g {
						t.Errorf("T2, P11.2: net %d, leaf %d, number %d: %d, want %d", which, leaf, at, g, slope)
					}
				}
			}
		}
	}
	if bent > tried/4 {
		t.Errorf("%d numbers of %d stand where a line bends", bent, tried)
	}
}
