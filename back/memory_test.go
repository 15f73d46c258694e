package back_test

import (
	"fmt"
	"slices"
	"testing"

	"carousel/api"
	"carousel/back"
	"carousel/tape"
)

func TestOneLeavesWhatIsHandedIn(t *testing.T) {
	x, at := withEachOp(t)
	was := nodesOf(x)
	for op, n := range at {
		for _, shape := range [][]int{was[n].T.Dims, {3}, {0}} {
			g := tensor(shape, counted(one, sizeOf(shape)).V...)
			dims, d := inRoom(g.Dims)
			numbers, v := inRoom(g.V)
			dimsBefore, numbersBefore := slices.Clone(dims), slices.Clone(numbers)
			a, b, _ := back.One(x, n, api.Tensor{Dims: d, V: v})
			spoil(a)
			spoil(b)
			if !slices.Equal(dims, dimsBefore) || !slices.Equal(numbers, numbersBefore) {
				t.Errorf("P11.1: Op %d: g of shape %v, or the room about it, is changed", op, shape)
			}
		}
		stays(t, fmt.Sprintf("P11.1: Op %d, its answers spoilt", op), x, was)
	}
}

func TestOneKeepsNothing(t *testing.T) {
	x, at := withEachOp(t)
	was := nodesOf(x)
	for op, n := range at {
		g := counted(one, was[n].T.Dims...)
		a, b, _ := back.One(x, n, g)
		wasA, wasB := copied(a), copied(b)
		spoil(g)
		if !alike(a, wasA) || !alike(b, wasB) {
			t.Errorf("P11.1: Op %d: an answer shares memory with what was handed in", op)
		}
		gives(t, fmt.Sprintf("Op %d once more", op), x, n, counted(one, was[n].T.Dims...), wasA, wasB)
	}
}

func TestOnesAnswersAreApart(t *testing.T) {
	x, at := withEachOp(t)
	was := nodesOf(x)
	for op, n := range at {
		g := counted(one, was[n].T.Dims...)
		a, b, _ := back.One(x, n, g)
		again, more, _ := back.One(x, n, g)
		wasB, wasAgain, wasMore := copied(b), copied(again), copied(more)
		spoil(a)
		_ = append(a.Dims, 99)
		_ = append(a.V, 99)
		if !alike(b, wasB) {
			t.Errorf("P11.1: Op %d: what is for A shares memory with what is for B", op)
		}
		spoil(b)
		if !alike(again, wasAgain) || !alike(more, wasMore) {
			t.Errorf("P11.1: Op %d: two answers share memory", op)
		}
	}
}

// swept has a root that is of a node of each Op, and leaves that it is not of.
func swept(t *testing.T) (*tape.Tape, int) {
	t.Helper()
	x, at := withEachOp(t)
	root := done(t, x, 2, at[9], at[10], 0)
	for op := 1; op <= 14; op++ {
		if op != 9 && op != 10 {
			root = done(t, x, 2, root, done(t, x, 9, at[op], 0, 0), 0)
		}
	}
	for _, d := range [][]int{nil, {1}, {2, 2}, {1, 2, 1}} {
		if _, err := x.Leaf(filled(5, d...)); err != api.OK {
			t.Fatalf("Leaf: %d", err)
		}
	}
	return x, done(t, x, 2, root, at[9], 0)
}

func TestSweepsAnswersAreApart(t *testing.T) {
	x, root := swept(t)
	was := nodesOf(x)
	fresh, err := back.Sweep(x, root)
	if err != api.OK || len(fresh) != root+1 {
		t.Fatalf("P11.2: Sweep(%d): %d gradients, %d", root, len(fresh), err)
	}
	var wanted []api.Tensor
	for _, g := range fresh {
		wanted = append(wanted, copied(g))
	}
	for n := range wanted {
		l, _ := back.Sweep(x, root)
		spoil(l[n])
		_ = append(l[n].Dims, 99)
		_ = append(l[n].V, 99)
		l[n] = wanted[n]
		if !alikeLists(l, wanted) {
			t.Errorf("P11.2: the gradient of node %d shares memory with another one", n)
		}
		if !alikeLists(fresh, wanted) {
			t.Fatalf("P11.2: the gradient of node %d shares memory with another answer", n)
		}
		stays(t, fmt.Sprintf("P11.2: the gradient of node %d, spoilt", n), x, was)
	}
	// The list itself is new too, spare room included.
	l, _ := back.Sweep(x, root)
	clear(l[:cap(l)])
	sweeps(t, "behind spoilt answers", x, root, wanted...)
}
