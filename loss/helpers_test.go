package loss_test

import (
	"math"
	"slices"
	"testing"

	"carousel/api"
	"carousel/loss"
	"carousel/tape"
)

const (
	one = api.One
	top = api.Top
	low = api.Low
)

func tensor(d []int, v ...api.Fix) api.Tensor { return api.Tensor{Dims: d, V: v} }

// number is a tensor without sides.
func number(v api.Fix) api.Tensor { return tensor(nil, v) }

// line is a tensor of one side.
func line(v ...api.Fix) api.Tensor { return tensor([]int{len(v)}, v...) }

func whole(v ...int64) []api.Fix {
	l := make([]api.Fix, len(v))
	for i := range v {
		l[i] = api.Fix(v[i]) * one
	}
	return l
}

func leaf(t api.Tensor) tape.Node { return tape.Node{Op: 1, A: -1, B: -1, T: t} }

func alike(a, b api.Tensor) bool { return slices.Equal(a.Dims, b.Dims) && slices.Equal(a.V, b.V) }

func alikeNodes(a, b tape.Node) bool {
	return a.Op == b.Op && a.A == b.A && a.B == b.B && a.K == b.K && alike(a.T, b.T)
}

// short leaves out what nobody would read.
func short(n tape.Node) tape.Node {
	n.T.V = n.T.V[:min(len(n.T.V), 16)]
	return n
}

// laidOut makes a tape of leaves.
func laidOut(t *testing.T, leaves ...api.Tensor) *tape.Tape {
	t.Helper()
	x := tape.New()
	for _, l := range leaves {
		if _, err := x.Leaf(l); err != api.OK {
			t.Fatalf("Leaf: %d", err)
		}
	}
	return x
}

// fill lays small nodes till there is room for so many.
func fill(t *testing.T, x *tape.Tape, room int) *tape.Tape {
	t.Helper()
	for x.Len() < api.MaxOps-room {
		if _, err := x.Leaf(number(5)); err != api.OK {
			t.Fatalf("Leaf: %d", err)
		}
	}
	return x
}

func nodesOf(x *tape.Tape) []tape.Node {
	all := make([]tape.Node, x.Len())
	for i := range all {
		all[i], _ = x.At(i)
	}
	return all
}

// holds asks for a tape of just these nodes.
func holds(t *testing.T, what string, x *tape.Tape, wanted []tape.Node) {
	t.Helper()
	got := nodesOf(x)
	if len(got) != len(wanted) {
		t.Errorf("P13.1: %s: %d nodes, want %d", what, len(got), len(wanted))
		return
	}
	for i := range got {
		if !alikeNodes(got[i], wanted[i]) {
			t.Errorf("P13.1: %s: node %d is %v, want %v", what, i, short(got[i]), short(wanted[i]))
			return
		}
	}
}

// call is one of the three, of a node that is told later.
type call func(x *tape.Tape, out int) (int, api.Errno)

func square(want ...api.Fix) call {
	return func(x *tape.Tape, out int) (int, api.Errno) { return loss.Square(x, out, want) }
}

func size(want ...api.Fix) call {
	return func(x *tape.Tape, out int) (int, api.Errno) { return loss.Size(x, out, want) }
}

func hinge(class int) call {
	return func(x *tape.Tape, out int) (int, api.Errno) { return loss.Hinge(x, out, class) }
}

// told asks for these nodes behind all others, which stay, and for the last of them as the answer.
func told(t *testing.T, what string, x *tape.Tape, out int, f call, wanted []tape.Node) {
	t.Helper()
	was := nodesOf(x)
	if n, err := f(x, out); err != api.OK || n != len(was)+len(wanted)-1 {
		t.Errorf("P13.1: %s: %d, %d, want %d, 0", what, n, err, len(was)+len(wanted)-1)
	}
	holds(t, what, x, append(was, wanted...))
}

// refused asks for an error, for nothing beside it, and for a tape as it was.
func refused(t *testing.T, what string, x *tape.Tape, out int, f call, wanted api.Errno) {
	t.Helper()
	was := nodesOf(x)
	if n, err := f(x, out); n != 0 || err != wanted {
		t.Errorf("P13.1: %s: %d, %d, want 0, %d", what, n, err, wanted)
	}
	holds(t, what, x, was)
}

// comesTo asks for the number that is told, of a row alone on its tape.
func comesTo(t *testing.T, what string, row []api.Fix, f call, wanted api.Fix) {
	t.Helper()
	x := laidOut(t, line(row...))
	n, err := f(x, 0)
	if v, ok := x.Value(n); err != api.OK || !ok || !alike(v, number(wanted)) {
		t.Errorf("P13.1: %s: %v, %d, want %d", what, v, err, wanted)
	}
}

// noNodes are numbers of no node of a tape of so many.
func noNodes(long int) []int {
	return []int{-1, -2, -long, -long - 1, long, long + 1, 512, 1 << 16, 1 << 32, 1<<32 + 1, -1 << 32, 1 << 40, math.MaxInt, math.MinInt, math.MinInt + 1}
}

// noPlaces are numbers of no place of a row of so many.
func noPlaces(many int) []int {
	return append(noNodes(many), 4096, many+1<<8, many-1+1<<16, many-1+1<<32, math.MinInt+many-1)
}
