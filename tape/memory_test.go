package tape_test

import (
	"fmt"
	"slices"
	"testing"

	"carousel/api"
	"carousel/tape"
)

func TestLeafLeavesWhatIsHandedIn(t *testing.T) {
	for _, a := range append(someTensors(), noTensors()...) {
		dims, d := inRoom(a.Dims)
		numbers, v := inRoom(a.V)
		dimsBefore, numbersBefore := slices.Clone(dims), slices.Clone(numbers)
		x := tape.New()
		if n, err := x.Leaf(api.Tensor{Dims: d, V: v}); err == api.OK {
			x.Do(2, n, n, 0)
			x.Do(5, n, n, 3*one)
			x.Do(14, n, n, 0)
			got, _ := x.Value(n)
			spoilTensor(got)
		}
		if !slices.Equal(dims, dimsBefore) || !slices.Equal(numbers, numbersBefore) {
			t.Errorf("P10.1: Leaf of shape %v: it, or the room about it, is changed", a.Dims)
		}
	}
}

func TestLeafKeepsNothing(t *testing.T) {
	for _, a := range someTensors() {
		dims, d := inRoom(a.Dims)
		numbers, v := inRoom(a.V)
		x := tape.New()
		x.Leaf(api.Tensor{Dims: d, V: v})
		x.Do(14, 0, 0, 0)
		spoil(dims)
		spoil(numbers)
		x.Do(14, 0, 0, 0)
		leaf := tape.Node{Op: 1, A: -1, B: -1, T: a}
		row := tape.Node{Op: 14, A: 0, B: -1, T: line(a.V...)}
		holds(t, fmt.Sprintf("a Leaf of shape %v, changed behind the call", a.Dims), x, []tape.Node{leaf, row, row})
	}
}

// withEachOp has, for each Op, a node of it, and nodes of its node.
func withEachOp(t *testing.T) *tape.Tape {
	t.Helper()
	x := laidOut(t, counted(2, 2), counted(2, 2), ones(1, 2, 2), number(5), line(5))
	for op := 2; op <= 14; op++ {
		b := 1
		if op == 12 {
			b = 2
		}
		n, err := x.Do(op, 0, b, 1)
		if err != api.OK {
			t.Fatalf("P10.1: Do(%d, 0, %d, 1): %d", op, b, err)
		}
		for _, on := range []int{2, 14} {
			if _, err := x.Do(on, n, n, 0); err != api.OK {
				t.Fatalf("P10.1: Do(%d, %d, %d, 0): %d", on, n, n, err)
			}
		}
	}
	return x
}

func TestAnswersAreNewMemory(t *testing.T) {
	x := withEachOp(t)
	was := nodesOf(t, x)
	for i := range x.Len() {
		first, _ := x.At(i)
		second, _ := x.At(i)
		value, _ := x.Value(i)
		again, _ := x.Value(i)
		spoilTensor(first.T)
		spoilTensor(value)
		if !alikeNodes(second, was[i]) || !alike(again, was[i].T) {
			t.Errorf("P10.1: node %d, Op %d: two answers share memory", i, was[i].Op)
		}
		holds(t, fmt.Sprintf("answers of node %d, changed", i), x, was)
	}
	done(t, "behind spoilt answers", x, 2, 0, 1, 0, tape.Node{Op: 2, A: 0, B: 1, T: tensor([]int{2, 2}, 2, 4, 6, 8)})
}

func TestSpareRoomIsNotShared(t *testing.T) {
	x := withEachOp(t)
	was := nodesOf(t, x)
	for i := range was {
		n, _ := x.At(i)
		// To lay more behind an answer writes into its spare room.
		_ = append(n.T.Dims, 99, 99, 99)
		_ = append(n.T.V, 99, 99, 99)
		v, _ := x.Value(i)
		_ = append(v.Dims, 99, 99, 99)
		_ = append(v.V, 99, 99, 99)
	}
	holds(t, "more laid behind answers", x, was)
}

func TestTapesAreApart(t *testing.T) {
	x, y := laidOut(t, line(1, 2)), laidOut(t, line(3, 4), line(5, 6))
	done(t, "one of two tapes", x, 2, 0, 0, 0, tape.Node{Op: 2, A: 0, B: 0, T: line(2, 4)})
	done(t, "the other", y, 2, 0, 1, 0, tape.Node{Op: 2, A: 0, B: 1, T: line(8, 10)})
	if x.Len() != 2 || y.Len() != 3 || tape.New().Len() != 0 {
		t.Errorf("P10.1: tapes of %d, %d and %d nodes, want 2, 3 and 0", x.Len(), y.Len(), tape.New().Len())
	}
}
