package tape_test

import (
	"fmt"
	"math"
	"slices"
	"testing"

	"carousel/api"
	"carousel/tape"
)

func TestTheChaptersExamples(t *testing.T) {
	x := tape.New()
	for i, v := range []api.Fix{2, 3} {
		if n, err := x.Leaf(number(v * one)); n != i || err != api.OK {
			t.Errorf("P10.1: Leaf(%d): %d, %d, want %d", v, n, err, i)
		}
	}
	if n, err := x.Do(4, 0, 1, 0); n != 2 || err != api.OK {
		t.Errorf("P10.1: Do(4, 0, 1, 0): %d, %d, want 2", n, err)
	}
	if v, ok := x.Value(2); !ok || !alike(v, number(6*one)) {
		t.Errorf("P10.1: Value(2): %v, %t, want 6", v, ok)
	}
}

// A number K of parts is that number itself: 2 is no more than side 2, kind 2, a step or width of 2.
func TestKOfTwoParts(t *testing.T) {
	x := laidOut(t, counted(1, 2, 3), line(-16, 16), counted(1, 5), ones(1, 1, 1))
	done(t, "a sum along side 2", x, 8, 0, 0, 2, tape.Node{Op: 8, A: 0, B: -1, K: 2, T: tensor([]int{1, 2}, 6, 15)})
	done(t, "a bend of kind 2", x, 11, 1, 0, 2, tape.Node{Op: 11, A: 1, B: -1, K: 2, T: line(-2, 16)})
	done(t, "a row by steps of 2", x, 12, 2, 3, 2, tape.Node{Op: 12, A: 2, B: 3, K: 2, T: tensor([]int{1, 3}, 1, 3, 5)})
	done(t, "a pool of 2", x, 13, 2, 0, 2, tape.Node{Op: 13, A: 2, B: -1, K: 2, T: tensor([]int{1, 2}, 2, 4)})
	done(t, "a scale by 2 parts", x, 5, 1, 0, 2, tape.Node{Op: 5, A: 1, B: -1, K: 2, T: line(0, 0)})
}

// did is an Op of leaves 0 and 1, with what it must make of them.
type did struct {
	op   int
	a, b api.Tensor
	k    api.Fix
	want api.Tensor
}

func ordinary() []did {
	six, row := counted(2, 3), counted(1, 5)
	return slices.Concat(
		[]did{
			{2, line(1, 2), line(10, 20), 0, line(11, 22)},
			{2, six, line(10, 20, 30), 0, tensor([]int{2, 3}, 11, 22, 33, 14, 25, 36)},
			{2, line(10, 20, 30), six, 0, tensor([]int{2, 3}, 11, 22, 33, 14, 25, 36)},
			{2, line(top, low), line(1, -1), 0, line(top, low)},
			{3, line(1, 20), line(10, 2), 0, line(-9, 18)},
			{3, six, number(2), 0, tensor([]int{2, 3}, -1, 0, 1, 2, 3, 4)},
			{3, line(0, -2), line(low, top), 0, line(top, low)},
			{4, line(2*one, -3*one), line(5*one, 7*one), 0, line(10*one, -21*one)},
			{4, line(3, 5), number(half), 0, line(2, 2)},
			{5, line(2, -3, 0), number(0), 3 * one, line(6, -9, 0)},
			{5, six, number(0), half, tensor([]int{2, 3}, 0, 1, 2, 2, 2, 3)},
			{5, line(one, 3), number(0), 0, line(0, 0)},
			{5, line(one, -one, 2*one), number(0), top, line(top, low+1, top)},
			{5, line(one, low), number(0), -one, line(-one, top)},
			{6, tensor([]int{1, 2}, one, 2*one), tensor([]int{2, 1}, 3*one, 4*one), 0, tensor([]int{1, 1}, 11*one)},
			{6, tensor([]int{2, 1}, one, 2*one), tensor([]int{1, 2}, 3*one, 4*one), 0, tensor([]int{2, 2}, 3*one, 4*one, 6*one, 8*one)},
			{7, six, number(0), 0, tensor([]int{3, 2}, 1, 4, 2, 5, 3, 6)},
		},
		[]did{
			{8, six, number(0), 0, line(5, 7, 9)},
			{8, six, number(0), 1, line(6, 15)},
			{8, line(4, 5), number(0), 0, number(9)},
			{8, counted(2, 1, 2, 2), number(0), 3, tensor([]int{2, 1, 2}, 3, 7, 11, 15)},
			{8, line(top, 1, -2), number(0), 0, number(top - 1)},
			{9, six, number(0), 0, number(21)},
			{9, number(7), number(0), 0, number(7)},
			{9, line(low, -1), number(0), 0, number(low)},
			{10, six, number(0), 0, number(4)},
			{10, line(2, 3), number(0), 0, number(2)},
			{10, line(top, top), number(0), 0, number(top)},
			{11, line(-16, 0, 16), number(0), 1, line(0, 0, 16)},
			{11, line(-16, 0, 16), number(0), 2, line(-2, 0, 16)},
			{11, line(-2*one, 5, 2*one), number(0), 3, line(-one, 5, one)},
			{11, line(-2*one, low, 5), number(0), 4, line(2*one, top, 5)},
			{11, line(-one, 0, one), number(0), 5, line(0, half, one)},
			{12, tensor([]int{1, 3}, one, 2*one, 3*one), ones(1, 1, 2), 1, tensor([]int{1, 2}, 3*one, 5*one)},
			{12, row, ones(2, 1, 1), 2, tensor([]int{2, 3}, 1, 3, 5, 1, 3, 5)},
			{12, six, ones(1, 2, 2), 1, tensor([]int{1, 2}, 12, 16)},
			{12, row, ones(1, 1, 1), 64, tensor([]int{1, 1}, 1)},
			{13, six, number(0), 3, tensor([]int{2, 1}, 3, 6)},
			{13, row, number(0), 1, row},
			{13, tensor([]int{1, 5}, 3, 1, -4, -2, 9), number(0), 2, tensor([]int{1, 2}, 3, -2)},
			{14, six, number(0), 0, line(1, 2, 3, 4, 5, 6)},
			{14, number(7), number(0), 0, line(7)},
			{14, line(1, 2), number(0), 0, line(1, 2)},
			{14, counted(2, 2, 1, 2), number(0), 0, line(1, 2, 3, 4, 5, 6, 7, 8)},
		})
}

func (d did) node(a, b int, k api.Fix) tape.Node {
	n := tape.Node{Op: d.op, A: a, B: -1, T: d.want}
	if slices.Contains(opsOfTwo(), d.op) {
		n.B = b
	}
	if slices.Contains(opsWithK(), d.op) {
		n.K = k
	}
	return n
}

func TestEachOp(t *testing.T) {
	tried := map[int]int{}
	for _, d := range ordinary() {
		tried[d.op]++
		what := fmt.Sprintf("Op %d of %v and %v", d.op, d.a, d.b)
		done(t, what, laidOut(t, d.a, d.b), d.op, 0, 1, d.k, d.node(0, 1, d.k))
		// The node that is A may stand behind the one that is B.
		done(t, what, laidOut(t, d.b, d.a), d.op, 1, 0, d.k, d.node(1, 0, d.k))
	}
	if len(tried) != 13 {
		t.Errorf("%d Ops are tried, of 13", len(tried))
	}
}

// Where an Op is of one node, b counts for nothing; where it has no K, nor does k.
func TestWhatAnOpHasNot(t *testing.T) {
	for _, d := range ordinary() {
		x := laidOut(t, d.a, d.b)
		if slices.Contains(opsOfOne(), d.op) {
			for _, b := range append(noNodes(2), 0, 1, 2) {
				done(t, fmt.Sprintf("Op %d of one node", d.op), x, d.op, 0, b, d.k, d.node(0, -1, d.k))
			}
		}
		if !slices.Contains(opsWithK(), d.op) {
			for _, k := range append(farK(), 0, 1, 2, 3, 64) {
				done(t, fmt.Sprintf("Op %d without a K", d.op), x, d.op, 0, 1, k, d.node(0, 1, 0))
			}
		}
	}
}

func TestOneNodeTwice(t *testing.T) {
	a := tensor([]int{2, 2}, 3*one, 2*one, one, -one)
	for op, v := range map[int][]api.Fix{
		2: {6 * one, 4 * one, 2 * one, -2 * one},
		3: {0, 0, 0, 0},
		4: {9 * one, 4 * one, one, one},
		6: {11 * one, 4 * one, 2 * one, 3 * one},
	} {
		done(t, "a node and itself", laidOut(t, line(1), a), op, 1, 1, 0, tape.Node{Op: op, A: 1, B: 1, T: tensor([]int{2, 2}, v...)})
	}
}

// Nodes that were done are nodes like leaves.
func TestNodesOfNodes(t *testing.T) {
	x := laidOut(t, counted(2, 3))
	done(t, "a flip", x, 7, 0, 0, 0, tape.Node{Op: 7, A: 0, B: -1, T: tensor([]int{3, 2}, 1, 4, 2, 5, 3, 6)})
	done(t, "a flip of it", x, 7, 1, 0, 0, tape.Node{Op: 7, A: 1, B: -1, T: counted(2, 3)})
	done(t, "both", x, 2, 0, 2, 0, tape.Node{Op: 2, A: 0, B: 2, T: tensor([]int{2, 3}, 2, 4, 6, 8, 10, 12)})
	done(t, "a sum of them", x, 8, 3, 0, 0, tape.Node{Op: 8, A: 3, B: -1, K: 0, T: line(10, 14, 18)})
	done(t, "one side of it", x, 14, 3, 0, 0, tape.Node{Op: 14, A: 3, B: -1, T: line(2, 4, 6, 8, 10, 12)})
	done(t, "all of the sum", x, 9, 4, 0, 0, tape.Node{Op: 9, A: 4, B: -1, T: number(42)})
	done(t, "it less the number", x, 3, 4, 6, 0, tape.Node{Op: 3, A: 4, B: 6, T: line(-32, -28, -24)})
	if n, err := x.Leaf(line(5)); n != 8 || err != api.OK {
		t.Errorf("P10.1: a Leaf behind what was done: %d, %d, want 8", n, err)
	}
}

func TestAnEmptyTape(t *testing.T) {
	x := tape.New()
	if x.Len() != 0 {
		t.Errorf("P10.1: Len of a new one: %d", x.Len())
	}
	tellsNone(t, x, 0)
	for op := -1; op <= 15; op++ {
		refused(t, "an empty tape", x, op, 0, 0, 1, api.EARG)
	}
}

// tellsNone asks for a node that is not there.
func tellsNone(t *testing.T, x *tape.Tape, n int) {
	t.Helper()
	if node, ok := x.At(n); ok || !alikeNodes(node, tape.Node{}) {
		t.Errorf("P10.1: At(%d) of %d: %v, %t, want nothing", n, x.Len(), short(node), ok)
	}
	if v, ok := x.Value(n); ok || !alike(v, api.Tensor{}) {
		t.Errorf("P10.1: Value(%d) of %d: %v, %t, want nothing", n, x.Len(), v, ok)
	}
}

func TestNoNode(t *testing.T) {
	x := laidOut(t, number(1), line(2, 3), counted(2, 3))
	for _, n := range append(noNodes(3), 3, 4, math.MaxInt-1) {
		tellsNone(t, x, n)
	}
}

func TestLeaf(t *testing.T) {
	for _, a := range someTensors() {
		x := tape.New()
		for i := range 3 {
			if n, err := x.Leaf(a); n != i || err != api.OK {
				t.Errorf("P10.1: Leaf of shape %v: %d, %d, want %d", a.Dims, n, err, i)
			}
		}
		leaf := tape.Node{Op: 1, A: -1, B: -1, T: a}
		holds(t, fmt.Sprintf("Leafs of shape %v", a.Dims), x, []tape.Node{leaf, leaf, leaf})
	}
	// A list that is not there is an empty one.
	holds(t, "a Leaf without sides", laidOut(t, tensor([]int{}, 5), number(5)), []tape.Node{{Op: 1, A: -1, B: -1, T: number(5)}, {Op: 1, A: -1, B: -1, T: number(5)}})
}

func TestLeafOfNoTensor(t *testing.T) {
	for _, full := range []bool{false, true} {
		x := tape.New()
		if full {
			x = laidOut(t, counted(2, 3), number(4))
		}
		was := nodesOf(t, x)
		for _, bad := range noTensors() {
			if n, err := x.Leaf(bad); n != 0 || err != api.EARG {
				t.Errorf("P10.1: Leaf of %v: %d, %d, want 0, EARG", short(tape.Node{T: bad}).T, n, err)
			}
		}
		holds(t, "Leafs of no tensor", x, was)
	}
}
