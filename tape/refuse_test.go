package tape_test

import (
	"fmt"
	"math"
	"testing"

	"carousel/api"
	"carousel/tape"
)

func TestOtherOps(t *testing.T) {
	x := laidOut(t, counted(2, 2), counted(2, 2), ones(1, 2, 2))
	for _, op := range []int{0, 1, 15, 16, 17, -1, -2, -14, 255, 256, 258, 1<<16 + 2, 1 << 32, 1<<32 + 2, 1<<32 + 5, -1<<32 + 2, -1<<32 + 14, 1 << 40, math.MaxInt, math.MinInt, math.MinInt + 2} {
		for _, a := range []int{0, 2, -1, 3} {
			for _, k := range []api.Fix{0, 1, one} {
				refused(t, "no Op", x, op, a, 1, k, api.EARG)
			}
		}
	}
}

func TestNodesThatAreNone(t *testing.T) {
	x := laidOut(t, counted(2, 2), counted(2, 2), ones(1, 2, 2))
	for _, n := range noNodes(3) {
		for op := 2; op <= 14; op++ {
			refused(t, "no A", x, op, n, 1, 1, api.EARG)
			refused(t, "no A and no B", x, op, n, n, 1, api.EARG)
		}
		for _, op := range opsOfTwo() {
			refused(t, "no B", x, op, 0, n, 1, api.EARG)
			// With A itself, some would be ESHAPE, if it came to that.
			refused(t, "no B", x, op, 2, n, 1, api.EARG)
		}
	}
}

// A node is only there once it is done: none is of itself.
func TestNoNodeOfItself(t *testing.T) {
	x := laidOut(t, counted(2, 2), counted(2, 2))
	for op := 2; op <= 14; op++ {
		refused(t, "of itself", x, op, x.Len(), x.Len(), 1, api.EARG)
		refused(t, "of itself", x, op, x.Len(), 0, 1, api.EARG)
	}
	for _, op := range opsOfTwo() {
		refused(t, "of itself", x, op, 0, x.Len(), 1, api.EARG)
	}
}

func TestKThatMayNotBe(t *testing.T) {
	good := map[int][]api.Fix{8: {0, 1}, 11: {1, 2, 3, 4, 5}, 12: {1, 2, 3, 63, 64}, 13: {1, 2, 3}}
	bad := map[int][]api.Fix{8: {2, 3}, 11: {0, 6, 7}, 12: {0, 65, 66}, 13: {0, 4, 5}}
	for _, op := range wholeK() {
		x := laidOut(t, counted(2, 3), ones(1, 2, 2))
		for _, k := range good[op] {
			if n, err := x.Do(op, 0, 1, k); n != x.Len()-1 || err != api.OK {
				t.Errorf("P10.1: Do(%d, 0, 1, %d): %d, %d, want it done", op, k, n, err)
			}
			if n, _ := x.At(x.Len() - 1); n.Op != op || n.K != k {
				t.Errorf("P10.1: Do(%d, 0, 1, %d): K is %d", op, k, n.K)
			}
		}
		for _, k := range append(bad[op], farK()...) {
			refused(t, "K", x, op, 0, 1, k, api.EARG)
		}
	}
}

// A tensor without sides has none to sum along.
func TestSumWithoutSides(t *testing.T) {
	for _, k := range append(farK(), 0, 1) {
		refused(t, "a sum", laidOut(t, number(5)), 8, 0, 0, k, api.EARG)
	}
}

func TestErrorsOfWhatItIs(t *testing.T) {
	for _, c := range []struct {
		ops  []int
		a, b api.Tensor
		k    api.Fix
		want api.Errno
	}{
		{[]int{2, 3, 4}, line(1, 2), line(1, 2, 3), 0, api.ESHAPE},
		{[]int{2, 3, 4}, counted(2, 3), line(1, 2), 0, api.ESHAPE},
		{[]int{2, 3, 4}, counted(4096, 1), line(1, 2), 0, api.ELIMIT},
		{[]int{2, 3, 4}, line(1, 2), counted(4096, 1), 0, api.ELIMIT},
		{[]int{2, 3, 4}, counted(64, 1), counted(65), 0, api.ELIMIT},
		{[]int{6}, counted(2, 3), counted(2, 3), 0, api.ESHAPE},
		{[]int{6}, counted(2, 3), line(1, 2, 3), 0, api.ESHAPE},
		{[]int{6}, number(1), number(1), 0, api.ESHAPE},
		{[]int{6}, counted(1, 2, 3), counted(3, 2), 0, api.ESHAPE},
		{[]int{6}, counted(64, 1), counted(1, 65), 0, api.ELIMIT},
		{[]int{6}, counted(4096, 1), counted(1, 2), 0, api.ELIMIT},
		{[]int{7}, number(1), number(1), 0, api.ESHAPE},
		{[]int{7}, line(1, 2), number(1), 0, api.ESHAPE},
		{[]int{7}, counted(1, 2, 3), number(1), 0, api.ESHAPE},
		{[]int{7}, counted(1, 2, 3, 1), number(1), 0, api.ESHAPE},
		{[]int{8}, line(1, 2), number(1), 1, api.EARG},
		{[]int{11}, number(1), number(1), 6, api.EARG},
		{[]int{12}, counted(1, 3), counted(1, 1, 4), 1, api.ESHAPE},
		{[]int{12}, counted(2, 3), ones(1, 1, 2), 1, api.ESHAPE},
		{[]int{12}, ones(1, 1, 2), counted(1, 3), 1, api.ESHAPE},
		{[]int{12}, counted(1, 3), counted(1, 3), 1, api.ESHAPE},
		{[]int{12}, counted(1, 4096), ones(2, 1, 1), 1, api.ELIMIT},
		// A step is asked ahead of the shapes, a width behind them.
		{[]int{12}, line(1, 2), line(1, 2), 0, api.EARG},
		{[]int{12}, line(1, 2), line(1, 2), 65, api.EARG},
		{[]int{12}, counted(1, 4096), ones(2, 1, 1), 0, api.EARG},
		{[]int{13}, number(1), number(1), 0, api.ESHAPE},
		{[]int{13}, line(1, 2), number(1), -1, api.ESHAPE},
		{[]int{13}, counted(1, 2, 3), number(1), top, api.ESHAPE},
		{[]int{13}, counted(1, 3), number(1), 0, api.EARG},
		{[]int{13}, counted(1, 3), number(1), 4, api.EARG},
	} {
		for _, op := range c.ops {
			refused(t, fmt.Sprintf("of shapes %v and %v", c.a.Dims, c.b.Dims), laidOut(t, c.a, c.b), op, 0, 1, c.k, c.want)
		}
	}
}

// filledUp makes a tape of so many nodes, leaves and others.
func filledUp(t *testing.T, long int) *tape.Tape {
	t.Helper()
	x := laidOut(t, counted(2, 2))
	for i := 1; i < long; i++ {
		n, err := 0, api.OK
		if i%2 == 0 {
			n, err = x.Leaf(line(api.Fix(i)))
		} else {
			n, err = x.Do(7, 0, 0, 0)
		}
		if n != i || err != api.OK {
			t.Fatalf("P10.1: node %d of %d: %d, %d", i, long, n, err)
		}
	}
	return x
}

func TestTheLastNode(t *testing.T) {
	x := filledUp(t, api.MaxOps-1)
	if n, err := x.Leaf(line(7)); n != api.MaxOps-1 || err != api.OK {
		t.Errorf("P10.1: the last Leaf: %d, %d, want %d", n, err, api.MaxOps-1)
	}
	holdsTheLast(t, x, tape.Node{Op: 1, A: -1, B: -1, T: line(7)})
	x = filledUp(t, api.MaxOps-1)
	// What is refused takes no room.
	for range 3 {
		x.Leaf(api.Tensor{})
		refused(t, "one below MaxOps", x, 15, 0, 0, 0, api.EARG)
		refused(t, "one below MaxOps", x, 2, 0, api.MaxOps-1, 0, api.EARG)
		refused(t, "one below MaxOps", x, 12, 0, 0, 1, api.ESHAPE)
	}
	if n, err := x.Do(2, 0, api.MaxOps-2, 0); n != api.MaxOps-1 || err != api.OK {
		t.Errorf("P10.1: the last Do: %d, %d, want %d", n, err, api.MaxOps-1)
	}
	holdsTheLast(t, x, tape.Node{Op: 2, A: 0, B: api.MaxOps - 2, T: tensor([]int{2, 2}, 511, 512, 513, 514)})
}

// holdsTheLast asks for a full tape, and its last node.
func holdsTheLast(t *testing.T, x *tape.Tape, wanted tape.Node) {
	t.Helper()
	n, ok := x.At(api.MaxOps - 1)
	if x.Len() != api.MaxOps || !ok || !alikeNodes(n, wanted) {
		t.Errorf("P10.1: the last of %d: %v, %t, want %v", x.Len(), short(n), ok, wanted)
	}
	tellsNone(t, x, api.MaxOps)
}

func TestAFullTape(t *testing.T) {
	x := filledUp(t, api.MaxOps)
	was := nodesOf(t, x)
	for _, a := range append(noTensors(), number(1), line(1, 2), counted(64, 64)) {
		if n, err := x.Leaf(a); n != 0 || err != api.ELIMIT {
			t.Errorf("P10.1: Leaf of shape %v on a full tape: %d, %d, want 0, ELIMIT", a.Dims, n, err)
		}
	}
	for _, op := range []int{math.MinInt, -1, 0, 1, 2, 3, 4, 5, 6, 7, 8, 9, 10, 11, 12, 13, 14, 15, math.MaxInt} {
		for _, a := range []int{0, -1, 2, api.MaxOps - 1, api.MaxOps, math.MaxInt} {
			for _, b := range []int{0, -1, 2, api.MaxOps} {
				if n, err := x.Do(op, a, b, 1); n != 0 || err != api.ELIMIT {
					t.Errorf("P10.1: Do(%d, %d, %d, 1) on a full tape: %d, %d, want 0, ELIMIT", op, a, b, n, err)
				}
			}
		}
	}
	holds(t, "a full tape", x, was)
}
