package back_test

import (
	"fmt"
	"testing"

	"carousel/api"
	"carousel/tape"
)

// withEachOp has a leaf, and behind others a node of each Op, told by its number; all of them, but
// of Ops 9 and 10, have at least two numbers.
func withEachOp(t *testing.T) (*tape.Tape, map[int]int) {
	t.Helper()
	x := laidOut(t, counted(one, 2, 2), counted(one, 2, 2), filled(one, 1, 2, 1))
	at := map[int]int{1: 0}
	for op := 2; op <= 14; op++ {
		b := 1
		if op == 12 {
			b = 2
		}
		at[op] = done(t, x, op, 0, b, 1)
	}
	return x, at
}

func TestOneOfNoNode(t *testing.T) {
	x, _ := withEachOp(t)
	for _, n := range noNodes(x.Len()) {
		for _, g := range []api.Tensor{number(1), line(1, 2), square(1, 2, 3, 4), {}} {
			givesNothing(t, "no node", x, n, g)
		}
	}
	for _, n := range []int{0, -1, 1} {
		givesNothing(t, "an empty tape", tape.New(), n, number(1))
		givesNothing(t, "an empty tape", tape.New(), n, api.Tensor{})
	}
}

func TestOneOfNoTensor(t *testing.T) {
	x, at := withEachOp(t)
	for op, n := range at {
		for _, g := range noTensors() {
			givesNothing(t, fmt.Sprintf("Op %d, no tensor", op), x, n, g)
		}
	}
}

// A gradient of a node's dims, but not with as many numbers, is no tensor.
func TestOneOfTooManyNumbers(t *testing.T) {
	x, at := withEachOp(t)
	for op, n := range at {
		v, _ := x.Value(n)
		for _, numbers := range [][]api.Fix{nil, v.V[1:], append(v.V[:len(v.V):len(v.V)], 5)} {
			givesNothing(t, fmt.Sprintf("Op %d, other numbers than its shape has", op), x, n, api.Tensor{Dims: v.Dims, V: numbers})
		}
	}
}

// Shapes that spread to the node's, that it spreads to, or that have as many numbers are others.
func TestOneOfAnotherShape(t *testing.T) {
	x, at := withEachOp(t)
	shapes := [][]int{nil, {1}, {2}, {4}, {1, 1}, {1, 2}, {2, 1}, {2, 2}, {1, 4}, {4, 1}, {2, 3}, {3, 2}, {1, 1, 1}, {1, 2, 2}, {2, 2, 1}, {2, 2, 2}, {1, 1, 1, 1}, {1, 1, 2, 2}, {64, 64}}
	for op, n := range at {
		v, _ := x.Value(n)
		others := 0
		for _, d := range shapes {
			if g := filled(1, d...); !alike(g, filled(1, v.Dims...)) {
				givesNothing(t, fmt.Sprintf("Op %d, another shape", op), x, n, g)
				others++
			}
		}
		if others != len(shapes)-1 {
			t.Errorf("Op %d: %d shapes of %d are tried", op, others, len(shapes))
		}
	}
}

func TestSweepOfNoNode(t *testing.T) {
	x, _ := withEachOp(t)
	for _, n := range noNodes(x.Len()) {
		sweepsNothing(t, "no node", x, n, api.EARG)
	}
	for _, n := range []int{0, -1, 1} {
		sweepsNothing(t, "an empty tape", tape.New(), n, api.EARG)
	}
}

func TestSweepOfSeveralNumbers(t *testing.T) {
	x, at := withEachOp(t)
	for op, n := range at {
		if op != 9 && op != 10 {
			sweepsNothing(t, fmt.Sprintf("Op %d, of several numbers", op), x, n, api.ESHAPE)
		}
	}
	x = laidOut(t, number(1), line(1, 2), counted(1, 1, 1, 1, 2), counted(1, 64, 64), counted(1, 2, 1))
	for n := 1; n < x.Len(); n++ {
		sweepsNothing(t, "a leaf of several numbers", x, n, api.ESHAPE)
	}
	sweeps(t, "a leaf of one number", x, 0, number(one))
}
