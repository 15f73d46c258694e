package back_test

import (
	"math"
	"math/rand"
	"slices"
	"testing"

	"carousel/api"
	"carousel/back"
	"carousel/tape"
)

const (
	one  = api.One
	half = api.One / 2
	top  = api.Top
	low  = api.Low
)

func tensor(d []int, v ...api.Fix) api.Tensor { return api.Tensor{Dims: d, V: v} }

// number is a tensor without sides.
func number(v api.Fix) api.Tensor { return tensor(nil, v) }

// line is a tensor of one side.
func line(v ...api.Fix) api.Tensor { return tensor([]int{len(v)}, v...) }

// square is a tensor of two rows of two.
func square(v ...api.Fix) api.Tensor { return tensor([]int{2, 2}, v...) }

// filled has the same number everywhere.
func filled(v api.Fix, d ...int) api.Tensor {
	return tensor(slices.Clone(d), slices.Repeat([]api.Fix{v}, sizeOf(d))...)
}

// counted has 1, 2, 3 and so on, each so many parts: no two of its places are alike.
func counted(parts api.Fix, d ...int) api.Tensor {
	t := filled(0, d...)
	for i := range t.V {
		t.V[i] = api.Fix(i+1) * parts
	}
	return t
}

// strewn has numbers of all sizes, the bounds among them, the same in every run.
func strewn(r *rand.Rand, d ...int) api.Tensor {
	t := filled(0, d...)
	for i := range t.V {
		t.V[i] = api.Fix(r.Uint64()) >> r.Intn(64)
		if r.Intn(12) == 0 {
			t.V[i] = []api.Fix{top, low, 0, one, -one, half}[r.Intn(6)]
		}
	}
	return t
}

func sizeOf(d []int) int {
	size := 1
	for _, side := range d {
		size *= side
	}
	return size
}

// noTensors are such as have no shape, whatever their V, and such as have one and another V.
func noTensors() []api.Tensor {
	all := []api.Tensor{
		{}, {Dims: []int{}, V: []api.Fix{}}, tensor(nil, 1, 2), tensor([]int{1}), tensor([]int{1}, 1, 2), tensor([]int{3}, 1), tensor([]int{3}, 1, 2), tensor([]int{3}, 1, 2, 3, 4),
		tensor([]int{2, 3}), tensor([]int{2, 3}, 1), tensor([]int{2, 3}, 1, 2, 3, 4, 5), tensor([]int{2, 3}, 1, 2, 3, 4, 5, 6, 7), tensor([]int{2, 2}, 1), tensor([]int{2, 2}, 1, 2, 3), tensor([]int{2, 2}, 1, 2, 3, 4, 5),
		{Dims: []int{2, 2}, V: make([]api.Fix, 3, 4)}, {Dims: []int{64, 64}}, {Dims: []int{4096}, V: make([]api.Fix, 4095)}, {Dims: []int{4097}, V: make([]api.Fix, 4097)},
		tensor([]int{1, 1, 1, 1, 1}, 1), tensor([]int{-2, -2}, 1, 2, 3, 4), tensor([]int{-1, -1}, 1),
	}
	for _, d := range [][]int{
		{0}, {-1}, {0, 0}, {2, 0}, {4096, 2}, {4096, 4096, 4096, 4096}, {math.MaxInt}, {math.MinInt}, {1 << 32, 1 << 32}, {math.MinInt, math.MinInt},
	} {
		all = append(all, tensor(d), tensor(d, 1), tensor(d, 1, 2, 3, 4))
	}
	return all
}

// alike compares with no call of the packages below.
func alike(a, b api.Tensor) bool { return slices.Equal(a.Dims, b.Dims) && slices.Equal(a.V, b.V) }

func alikeLists(a, b []api.Tensor) bool { return slices.EqualFunc(a, b, alike) }

// short leaves out what nobody would read.
func short(t api.Tensor) api.Tensor {
	return api.Tensor{Dims: t.Dims[:min(len(t.Dims), 6)], V: t.V[:min(len(t.V), 24)]}
}

func shortList(l []api.Tensor) []api.Tensor {
	var all []api.Tensor
	for _, t := range l[:min(len(l), 12)] {
		all = append(all, short(t))
	}
	return all
}

// laidOut makes a tape of leaves.
func laidOut(t *testing.T, leaves ...api.Tensor) *tape.Tape {
	t.Helper()
	x := tape.New()
	for i, l := range leaves {
		if n, err := x.Leaf(l); n != i || err != api.OK {
			t.Fatalf("Leaf: %d, %d, want %d", n, err, i)
		}
	}
	return x
}

// done lays one more node behind the others, and tells its number.
func done(t *testing.T, x *tape.Tape, op, a, b int, k api.Fix) int {
	t.Helper()
	n, err := x.Do(op, a, b, k)
	if err != api.OK {
		t.Fatalf("Do(%d, %d, %d, %d): %d", op, a, b, k, err)
	}
	return n
}

// nodesOf tells all that a tape has.
func nodesOf(x *tape.Tape) []tape.Node {
	all := make([]tape.Node, x.Len())
	for i := range all {
		all[i], _ = x.At(i)
	}
	return all
}

func alikeNodes(a, b tape.Node) bool {
	return a.Op == b.Op && a.A == b.A && a.B == b.B && a.K == b.K && alike(a.T, b.T)
}

// stays asks for a tape as it was.
func stays(t *testing.T, what string, x *tape.Tape, was []tape.Node) {
	t.Helper()
	if !slices.EqualFunc(nodesOf(x), was, alikeNodes) {
		t.Errorf("%s: the tape is changed", what)
	}
}

// gives asks One for just these.
func gives(t *testing.T, what string, x *tape.Tape, n int, g, forA, forB api.Tensor) {
	t.Helper()
	was := nodesOf(x)
	a, b, err := back.One(x, n, g)
	if err != api.OK || !alike(a, forA) || !alike(b, forB) {
		t.Errorf("P11.1: %s: One(%d, %v): %v, %v, %d, want %v, %v", what, n, short(g), short(a), short(b), err, short(forA), short(forB))
	}
	stays(t, "P11.1: "+what, x, was)
}

// givesNothing asks One for EARG, and nothing beside it.
func givesNothing(t *testing.T, what string, x *tape.Tape, n int, g api.Tensor) {
	t.Helper()
	was := nodesOf(x)
	a, b, err := back.One(x, n, g)
	if err != api.EARG || !alike(a, api.Tensor{}) || !alike(b, api.Tensor{}) {
		t.Errorf("P11.1: %s: One(%d, %v): %v, %v, %d, want EARG alone", what, n, short(g), short(a), short(b), err)
	}
	stays(t, "P11.1: "+what, x, was)
}

// sweeps asks Sweep for just these.
func sweeps(t *testing.T, what string, x *tape.Tape, root int, wanted ...api.Tensor) {
	t.Helper()
	was := nodesOf(x)
	got, err := back.Sweep(x, root)
	if err != api.OK || !alikeLists(got, wanted) {
		t.Errorf("P11.2: %s: Sweep(%d): %v, %d, want %v", what, root, shortList(got), err, shortList(wanted))
	}
	stays(t, "P11.2: "+what, x, was)
}

// sweepsNothing asks Sweep for an error, and nothing beside it.
func sweepsNothing(t *testing.T, what string, x *tape.Tape, root int, wanted api.Errno) {
	t.Helper()
	was := nodesOf(x)
	if got, err := back.Sweep(x, root); err != wanted || len(got) != 0 {
		t.Errorf("P11.2: %s: Sweep(%d): %v, %d, want %d alone", what, root, shortList(got), err, wanted)
	}
	stays(t, "P11.2: "+what, x, was)
}

// noNodes are numbers of no node of a tape of so many.
func noNodes(long int) []int {
	return []int{-1, -2, -long, -long - 1, long, long + 1, 512, 513, 1 << 16, 1 << 32, 1<<32 + 1, -1 << 32, 1 << 40, math.MaxInt, math.MinInt, math.MinInt + 1}
}

// inRoom lays a list in a wider one, so that there is room ahead of it and spare room behind it.
func inRoom[T int | api.Fix](list []T) (room, part []T) {
	room = slices.Concat([]T{9, 9}, list, []T{9, 9, 9, 9, 9})
	return room, room[2 : 2+len(list)]
}

// spoil writes over a tensor, its spare room included.
func spoil(t api.Tensor) {
	for i := range t.Dims[:cap(t.Dims)] {
		t.Dims[:cap(t.Dims)][i] = 99
	}
	for i := range t.V[:cap(t.V)] {
		t.V[:cap(t.V)][i] = 99
	}
}

func copied(t api.Tensor) api.Tensor {
	return api.Tensor{Dims: slices.Clone(t.Dims), V: slices.Clone(t.V)}
}
