package tape_test

import (
	"math"
	"math/rand"
	"slices"
	"testing"

	"carousel/api"
	"carousel/tape"
)

const (
	one  = api.One
	half = api.One / 2
	top  = api.Top
	low  = api.Low
)

func tensor(d []int, v ...api.Fix) api.Tensor { return api.Tensor{Dims: d, V: v} }

// number is a tensor without sides.
func number(v api.Fix) api.Tensor { return tensor(nil, v) }

// line is a tensor of one side.
func line(v ...api.Fix) api.Tensor { return tensor([]int{len(v)}, v...) }

// counted has 1, 2, 3 and so on, in parts: no two of its places are alike.
func counted(d ...int) api.Tensor {
	v := make([]api.Fix, sizeOf(d))
	for i := range v {
		v[i] = api.Fix(i + 1)
	}
	return tensor(d, v...)
}

// ones has ones, so that a product with it shows the other one.
func ones(d ...int) api.Tensor { return tensor(d, slices.Repeat([]api.Fix{one}, sizeOf(d))...) }

// strewn has numbers of all sizes, the bounds among them, the same in every run.
func strewn(r *rand.Rand, d ...int) api.Tensor {
	v := make([]api.Fix, sizeOf(d))
	for i := range v {
		v[i] = api.Fix(r.Uint64()) >> r.Intn(64)
		if r.Intn(12) == 0 {
			v[i] = []api.Fix{top, low, 0, one, -one}[r.Intn(5)]
		}
	}
	return tensor(d, v...)
}

func sizeOf(d []int) int {
	size := 1
	for _, side := range d {
		size *= side
	}
	return size
}

// noTensors are such as have no shape, whatever their V, and such as have one and another V.
func noTensors() []api.Tensor {
	all := []api.Tensor{
		{}, {Dims: []int{}, V: []api.Fix{}}, tensor(nil, 1, 2), tensor([]int{1}), tensor([]int{1}, 1, 2), tensor([]int{3}, 1), tensor([]int{3}, 1, 2), tensor([]int{3}, 1, 2, 3, 4),
		tensor([]int{2, 3}), tensor([]int{2, 3}, 1), tensor([]int{2, 3}, 1, 2, 3, 4, 5), tensor([]int{2, 3}, 1, 2, 3, 4, 5, 6, 7), tensor([]int{1, 2, 2}, 1, 2, 3),
		{Dims: []int{2, 3}, V: make([]api.Fix, 5, 6)}, {Dims: []int{64, 64}}, {Dims: []int{4096}, V: make([]api.Fix, 4095)}, {Dims: []int{4096}, V: make([]api.Fix, 4097)},
		{Dims: []int{4097}, V: make([]api.Fix, 4097)}, {Dims: []int{64, 65}, V: make([]api.Fix, 4160)},
		tensor([]int{1, 1, 1, 1, 1}, 1), tensor([]int{-2, -3}, 1, 2, 3, 4, 5, 6), tensor([]int{-1, -1}, 1),
	}
	for _, d := range [][]int{
		{0}, {-1}, {0, 0}, {2, 0}, {0, 3}, {2, 3, 4, -1}, {4096, 2}, {4096, 4096, 4096, 4096}, {2, 3, 1, 1, 1},
		{math.MaxInt}, {math.MinInt}, {1 << 32, 1 << 32}, {1 << 62, 4}, {math.MinInt, math.MinInt}, {4096, 1<<52 + 1},
	} {
		all = append(all, tensor(d), tensor(d, 1), tensor(d, 1, 2, 3, 4, 5, 6))
	}
	return all
}

// someTensors are of each number of sides, with sides of 1 in all places, of one number and of MaxSize.
func someTensors() []api.Tensor {
	r := rand.New(rand.NewSource(1))
	var all []api.Tensor
	for _, d := range [][]int{
		nil, {1}, {2}, {3}, {6}, {4096}, {1, 1}, {1, 3}, {3, 1}, {2, 3}, {3, 2}, {2, 2}, {64, 64}, {1, 4096}, {4096, 1},
		{1, 1, 1}, {1, 2, 2}, {2, 2, 2}, {3, 2, 1}, {2, 3, 4}, {1, 1, 1, 1}, {2, 1, 3, 2}, {8, 8, 8, 8},
	} {
		all = append(all, strewn(r, d...))
	}
	return all
}

// alike compares with no call of the packages below.
func alike(a, b api.Tensor) bool { return slices.Equal(a.Dims, b.Dims) && slices.Equal(a.V, b.V) }

func alikeNodes(a, b tape.Node) bool {
	return a.Op == b.Op && a.A == b.A && a.B == b.B && a.K == b.K && alike(a.T, b.T)
}

// short leaves out what nobody would read.
func short(n tape.Node) tape.Node {
	n.T = api.Tensor{Dims: n.T.Dims[:min(len(n.T.Dims), 6)], V: n.T.V[:min(len(n.T.V), 24)]}
	return n
}

// laidOut makes a tape of leaves.
func laidOut(t *testing.T, leaves ...api.Tensor) *tape.Tape {
	t.Helper()
	x := tape.New()
	for i, l := range leaves {
		if n, err := x.Leaf(l); n != i || err != api.OK {
			t.Fatalf("P10.1: Leaf: %d, %d, want %d", n, err, i)
		}
	}
	return x
}

// nodesOf tells all that a tape tells of its nodes.
func nodesOf(t *testing.T, x *tape.Tape) []tape.Node {
	t.Helper()
	all := make([]tape.Node, x.Len())
	for i := range all {
		n, ok := x.At(i)
		v, fine := x.Value(i)
		if !ok || !fine || !alike(n.T, v) {
			t.Fatalf("P10.1: node %d of %d: At tells %t, Value %t, and of T %t", i, len(all), ok, fine, alike(n.T, v))
		}
		all[i] = n
	}
	return all
}

// holds asks for a tape of just these nodes.
func holds(t *testing.T, what string, x *tape.Tape, wanted []tape.Node) {
	t.Helper()
	got := nodesOf(t, x)
	if len(got) != len(wanted) {
		t.Fatalf("P10.1: %s: %d nodes, want %d", what, len(got), len(wanted))
	}
	for i := range got {
		if !alikeNodes(got[i], wanted[i]) {
			t.Fatalf("P10.1: %s: node %d is %v, want %v", what, i, short(got[i]), short(wanted[i]))
		}
	}
}

// done asks for a new node behind all others, which stay.
func done(t *testing.T, what string, x *tape.Tape, op, a, b int, k api.Fix, wanted tape.Node) {
	t.Helper()
	was := nodesOf(t, x)
	if n, err := x.Do(op, a, b, k); n != len(was) || err != api.OK {
		t.Errorf("P10.1: %s: Do(%d, %d, %d, %d): %d, %d, want %d", what, op, a, b, k, n, err, len(was))
		return
	}
	holds(t, what, x, append(was, wanted))
}

// refused asks for an error, for nothing beside it, and for a tape as it was.
func refused(t *testing.T, what string, x *tape.Tape, op, a, b int, k api.Fix, wanted api.Errno) {
	t.Helper()
	was := nodesOf(t, x)
	if n, err := x.Do(op, a, b, k); n != 0 || err != wanted {
		t.Errorf("P10.1: %s: Do(%d, %d, %d, %d): %d, %d, want 0, %d", what, op, a, b, k, n, err, wanted)
	}
	holds(t, what, x, was)
}

// opsOfTwo have a B, opsOfOne have none; opsWithK have a number of their own, and wholeK one that
// is parts themselves.
func opsOfTwo() []int { return []int{2, 3, 4, 6, 12} }
func opsOfOne() []int { return []int{5, 7, 8, 9, 10, 11, 13, 14} }
func opsWithK() []int { return []int{5, 8, 11, 12, 13} }
func wholeK() []int   { return []int{8, 11, 12, 13} }

// noNodes are numbers of no node of a tape of so many.
func noNodes(long int) []int {
	return []int{-1, -2, -long, -long - 1, long, long + 1, 512, 1 << 16, 1 << 32, 1<<32 + 1, -1 << 32, 1 << 40, math.MaxInt, math.MinInt, math.MinInt + 1}
}

// farK are far from all that is a side, a kind, a step or a width; most would be one, if only some
// of their bits were taken, or the number that they stand for.
func farK() []api.Fix {
	return []api.Fix{-1, -2, low, low + 1, low + 2, top, top - 1, one, one + 1, 2 * one, 2*one + 2, 3 * one, -one, -one + 1, 1<<40 + 1, 1<<16 + 1, 1<<8 + 1, -1<<32 + 1, -1<<8 + 1, half, half + 1}
}

// inRoom lays a list in a wider one, so that there is room ahead of it and spare room behind it.
func inRoom[T int | api.Fix](list []T) (room, part []T) {
	room = slices.Concat([]T{9, 9}, list, []T{9, 9, 9, 9, 9})
	return room, room[2 : 2+len(list)]
}

// spoil writes over a list, its spare room included.
func spoil[T int | api.Fix](list []T) {
	for i := range list[:cap(list)] {
		list[:cap(list)][i] = 99
	}
}

func spoilTensor(t api.Tensor) {
	spoil(t.Dims)
	spoil(t.V)
}
