package tens_test

import (
	"math"
	"math/rand"
	"slices"
	"testing"

	"carousel/api"
)

func tensor(d []int, v ...api.Fix) api.Tensor { return api.Tensor{Dims: d, V: v} }

// counted has the numbers 1, 2, 3 and so on: no two of its places are alike.
func counted(d []int) api.Tensor {
	v := make([]api.Fix, sizeOf(d))
	for i := range v {
		v[i] = api.Fix(i + 1)
	}
	return api.Tensor{Dims: d, V: v}
}

// strewn has numbers of all sizes, the bounds among them, the same in every run.
func strewn(seed int64, d []int) api.Tensor {
	r := rand.New(rand.NewSource(seed))
	v := make([]api.Fix, sizeOf(d))
	for i := range v {
		v[i] = api.Fix(r.Uint64()) >> r.Intn(64)
		switch r.Intn(6) {
		case 0:
			v[i] = api.Top
		case 1:
			v[i] = api.Low
		}
	}
	return api.Tensor{Dims: d, V: v}
}

// sizeOf multiplies out what is known to be a shape.
func sizeOf(d []int) int {
	size := 1
	for _, side := range d {
		size *= side
	}
	return size
}

// onward moves a place to the next one, the last number fastest, as the hands of a clock.
func onward(d, place []int) {
	for i := len(d) - 1; i >= 0; i-- {
		place[i]++
		if place[i] < d[i] {
			return
		}
		place[i] = 0
	}
}

// numberAt finds a number by its place.
func numberAt(t api.Tensor, place []int) api.Fix {
	at := 0
	for i := range place {
		at += place[i] * sizeOf(t.Dims[i+1:])
	}
	return t.V[at]
}

// ownPlace tells which place of shape d is spread to a place of a bigger one: the sides ahead fall
// away, and along a side of 1 there is the first one alone.
func ownPlace(d, place []int) []int {
	own := slices.Clone(place[len(place)-len(d):])
	for i := range d {
		if d[i] == 1 {
			own[i] = 0
		}
	}
	return own
}

// lists answers every list of at most n of the numbers, the empty one first.
func lists(n int, numbers ...int) [][]int {
	all := [][]int{{}}
	begun := all
	for range n {
		var longer [][]int
		for _, d := range begun {
			for _, v := range numbers {
				longer = append(longer, append(slices.Clone(d), v))
			}
		}
		all = append(all, longer...)
		begun = longer
	}
	return all
}

// someShapes are of each length, with sides of 1 in all places, of size 1 and of MaxSize too.
func someShapes() [][]int {
	return append(lists(api.MaxDims, 1, 2, 3), [][]int{
		nil, {4096}, {4095}, {64, 64}, {1, 4096}, {4096, 1}, {2, 2048}, {4096, 1, 1, 1}, {1, 1, 1, 4096}, {64, 1}, {65},
		{16, 16, 16}, {8, 8, 8, 8}, {2, 3, 4, 5}, {5, 4, 3, 2}, {7, 1, 11, 13}, {6}, {12}, {4, 6}, {24}, {1, 64, 1, 64},
	}...)
}

// noShapes are of every kind that chapter 5 rules out.
func noShapes() [][]int {
	return [][]int{
		{0}, {-1}, {4097}, {math.MaxInt}, {math.MinInt}, {0, 0}, {-1, -1}, {2, 0}, {0, 3}, {-2, -3}, {2, 3, 4, -1},
		{64, 65}, {4096, 2}, {2, 2, 2, 513}, {4096, 4096, 4096, 4096}, {1, 1, 1, 1, 1}, {2, 3, 1, 1, 1}, make([]int, 1000),
		{1 << 32, 1 << 32}, {1 << 62, 4}, {math.MinInt, math.MinInt}, {4096, 1<<52 + 1},
	}
}

// noTensors are such as have no shape, whatever their V, and such as have one and another V.
func noTensors() []api.Tensor {
	all := []api.Tensor{
		{}, {Dims: []int{}, V: []api.Fix{}}, tensor(nil, 1, 2), tensor([]int{1}), tensor([]int{1}, 1, 2),
		tensor([]int{2, 3}), tensor([]int{2, 3}, 1), tensor([]int{2, 3}, 1, 2, 3, 4, 5), tensor([]int{2, 3}, 1, 2, 3, 4, 5, 6, 7),
		{Dims: []int{2, 3}, V: make([]api.Fix, 5, 6)},
		{Dims: []int{4096}, V: make([]api.Fix, 4095)}, {Dims: []int{4096}, V: make([]api.Fix, 4097)}, {Dims: []int{64, 64}},
		{Dims: []int{4097}, V: make([]api.Fix, 4097)}, {Dims: []int{64, 65}, V: make([]api.Fix, 4160)},
		tensor([]int{1, 1, 1, 1, 1}, 1), tensor([]int{-2, -3}, 1, 2, 3, 4, 5, 6), tensor([]int{-1, -1}, 1),
	}
	for _, d := range noShapes() {
		all = append(all, tensor(d), tensor(d, 1), tensor(d, 1, 2, 3, 4, 5, 6), api.Tensor{Dims: d, V: make([]api.Fix, 4096)})
	}
	return all
}

// alike compares with no call of the package.
func alike(a, b api.Tensor) bool { return slices.Equal(a.Dims, b.Dims) && slices.Equal(a.V, b.V) }

// want holds an answer against what it must be.
func want(t *testing.T, what string, got api.Tensor, err api.Errno, wanted api.Tensor) {
	t.Helper()
	if err != api.OK || !alike(got, wanted) {
		t.Errorf("P6.1: %s: %v, %d, want %v", what, short(got), err, short(wanted))
	}
}

// refused asks for an error, and for nothing beside it.
func refused(t *testing.T, what string, got api.Tensor, err, wanted api.Errno) {
	t.Helper()
	if err != wanted || len(got.Dims) != 0 || len(got.V) != 0 {
		t.Errorf("P6.1: %s: %v, %d, want no tensor, %d", what, short(got), err, wanted)
	}
}

// short leaves out what nobody would read.
func short(t api.Tensor) api.Tensor {
	return api.Tensor{Dims: t.Dims[:min(len(t.Dims), 6)], V: t.V[:min(len(t.V), 24)]}
}

// inRoom lays a list in a wider one, so that there is room ahead of it and spare room behind it.
func inRoom[T int | api.Fix](list []T) (room, part []T) {
	room = slices.Concat([]T{9, 9}, list, []T{9, 9, 9, 9, 9})
	return room, room[2 : 2+len(list)]
}

// spoil writes over a tensor, its spare room included.
func spoil(t api.Tensor) {
	for i := range t.Dims[:cap(t.Dims)] {
		t.Dims[:cap(t.Dims)][i] = 99
	}
	for i := range t.V[:cap(t.V)] {
		t.V[:cap(t.V)][i] = 99
	}
}
