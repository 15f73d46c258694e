package matm_test

import (
	"math"
	"math/big"
	"math/rand"
	"slices"
	"testing"

	"carousel/api"
)

// The exact values that the tests hold the answers against are whole numbers without bounds: they
// share nothing with the way in which the package reckons.

// exactDot sums the products of as many numbers as the shorter list has.
func exactDot(a, b []api.Fix) api.Fix {
	sum := new(big.Int)
	for i := 0; i < len(a) && i < len(b); i++ {
		sum.Add(sum, new(big.Int).Mul(big.NewInt(int64(a[i])), big.NewInt(int64(b[i]))))
	}
	return held(nearestWhole(sum, big.NewInt(int64(api.One))))
}

func exactTotal(v []api.Fix) *big.Int {
	sum := new(big.Int)
	for _, n := range v {
		sum.Add(sum, big.NewInt(int64(n)))
	}
	return sum
}

// nearestWhole rounds over/by, by above 0, to the nearest, of two that are as near to the even one.
func nearestWhole(over, by *big.Int) *big.Int {
	lower, rest := new(big.Int).DivMod(over, by, new(big.Int))
	side := rest.Lsh(rest, 1).Cmp(by)
	if side > 0 || side == 0 && lower.Bit(0) == 1 {
		lower.Add(lower, big.NewInt(1))
	}
	return lower
}

func held(v *big.Int) api.Fix {
	switch {
	case v.IsInt64():
		return api.Fix(v.Int64())
	case v.Sign() < 0:
		return api.Low
	}
	return api.Top
}

func tensor(d []int, v ...api.Fix) api.Tensor { return api.Tensor{Dims: d, V: v} }

// whole tells whole numbers' list.
func whole(numbers ...int64) []api.Fix {
	l := make([]api.Fix, len(numbers))
	for i, n := range numbers {
		l[i] = api.Fix(n) * api.One
	}
	return l
}

// counted has the numbers 1, 2, 3 and so on: no two of its places are alike.
func counted(d []int) api.Tensor {
	v := make([]api.Fix, sizeOf(d))
	for i := range v {
		v[i] = api.Fix(i + 1)
	}
	return api.Tensor{Dims: d, V: v}
}

// strewn has numbers of all sizes, the bounds among them, the same in every run.
func strewn(seed int64, d []int) api.Tensor {
	r := rand.New(rand.NewSource(seed))
	v := make([]api.Fix, sizeOf(d))
	for i := range v {
		v[i] = api.Fix(r.Uint64()) >> r.Intn(64)
		switch r.Intn(6) {
		case 0:
			v[i] = api.Top
		case 1:
			v[i] = api.Low
		}
	}
	return api.Tensor{Dims: d, V: v}
}

// small has numbers whose products seldom are held: their sums show each last bit.
func small(seed int64, d []int) api.Tensor {
	r := rand.New(rand.NewSource(seed))
	v := make([]api.Fix, sizeOf(d))
	for i := range v {
		v[i] = api.Fix(r.Uint64()) >> (22 + r.Intn(12))
	}
	return api.Tensor{Dims: d, V: v}
}

// sizeOf multiplies out what is known to be a shape.
func sizeOf(d []int) int {
	size := 1
	for _, side := range d {
		size *= side
	}
	return size
}

// onward moves a place to the next one, the last number fastest, as the hands of a clock.
func onward(d, place []int) {
	for i := len(d) - 1; i >= 0; i-- {
		place[i]++
		if place[i] < d[i] {
			return
		}
		place[i] = 0
	}
}

// numberAt finds a number by its place.
func numberAt(t api.Tensor, place []int) api.Fix {
	at := 0
	for i := range place {
		at += place[i] * sizeOf(t.Dims[i+1:])
	}
	return t.V[at]
}

// lists answers every list of at most n of the numbers, the empty one first.
func lists(n int, numbers ...int) [][]int {
	all := [][]int{{}}
	begun := all
	for range n {
		var longer [][]int
		for _, d := range begun {
			for _, v := range numbers {
				longer = append(longer, append(slices.Clone(d), v))
			}
		}
		all = append(all, longer...)
		begun = longer
	}
	return all
}

// someShapes are of each length, with sides of 1 in all places, of size 1 and of MaxSize too.
func someShapes() [][]int {
	return append(lists(api.MaxDims, 1, 2, 3), [][]int{
		nil, {4096}, {4095}, {64, 64}, {1, 4096}, {4096, 1}, {2, 2048}, {4096, 1, 1, 1}, {1, 1, 1, 4096}, {64, 1}, {65},
		{16, 16, 16}, {8, 8, 8, 8}, {2, 3, 4, 5}, {5, 4, 3, 2}, {7, 1, 11, 13}, {6}, {12}, {4, 6}, {24}, {1, 64, 1, 64},
	}...)
}

// noTensors are such as have no shape, whatever their V, and such as have one and another V.
func noTensors() []api.Tensor {
	all := []api.Tensor{
		{}, {Dims: []int{}, V: []api.Fix{}}, tensor(nil, 1, 2), tensor([]int{1}), tensor([]int{1}, 1, 2), tensor([]int{1, 1}), tensor([]int{1, 1}, 1, 2),
		tensor([]int{2, 3}), tensor([]int{2, 3}, 1), tensor([]int{2, 3}, 1, 2, 3, 4, 5), tensor([]int{2, 3}, 1, 2, 3, 4, 5, 6, 7),
		{Dims: []int{2, 3}, V: make([]api.Fix, 5, 6)}, {Dims: []int{64, 64}}, {Dims: []int{64, 64}, V: make([]api.Fix, 4095)},
		{Dims: []int{4096}, V: make([]api.Fix, 4095)}, {Dims: []int{4096}, V: make([]api.Fix, 4097)},
		{Dims: []int{4097}, V: make([]api.Fix, 4097)}, {Dims: []int{64, 65}, V: make([]api.Fix, 4160)}, {Dims: []int{4097, 1}, V: make([]api.Fix, 4097)},
		tensor([]int{1, 1, 1, 1, 1}, 1), tensor([]int{-2, -3}, 1, 2, 3, 4, 5, 6), tensor([]int{-1, -1}, 1),
	}
	for _, d := range [][]int{
		{0}, {-1}, {math.MaxInt}, {math.MinInt}, {0, 0}, {2, 0}, {0, 3}, {0, 3, 2}, {2, 3, 4, -1}, {64, 65}, {4096, 2}, {4096, 4096, 4096, 4096},
		{2, 3, 1, 1, 1}, make([]int, 1000), {1 << 32, 1 << 32}, {1 << 62, 4}, {math.MinInt, math.MinInt}, {4096, 1<<52 + 1},
	} {
		all = append(all, tensor(d), tensor(d, 1), tensor(d, 1, 2, 3, 4, 5, 6), api.Tensor{Dims: d, V: make([]api.Fix, 4096)})
	}
	return all
}

// alike compares with no call of the packages below.
func alike(a, b api.Tensor) bool { return slices.Equal(a.Dims, b.Dims) && slices.Equal(a.V, b.V) }

// want holds an answer against what it must be.
func want(t *testing.T, what string, got api.Tensor, err api.Errno, wanted api.Tensor) {
	t.Helper()
	if err != api.OK || !alike(got, wanted) {
		t.Errorf("P7.1: %s: %v, %d, want %v", what, short(got), err, short(wanted))
	}
}

// refused asks for an error, and for nothing beside it.
func refused(t *testing.T, what string, got api.Tensor, err, wanted api.Errno) {
	t.Helper()
	if err != wanted || len(got.Dims) != 0 || len(got.V) != 0 {
		t.Errorf("P7.1: %s: %v, %d, want no tensor, %d", what, short(got), err, wanted)
	}
}

// short leaves out what nobody would read.
func short(t api.Tensor) api.Tensor {
	return api.Tensor{Dims: t.Dims[:min(len(t.Dims), 6)], V: t.V[:min(len(t.V), 24)]}
}

// inRoom lays a list in a wider one, so that there is room ahead of it and spare room behind it.
func inRoom[T int | api.Fix](list []T) (room, part []T) {
	room = slices.Concat([]T{9, 9}, list, []T{9, 9, 9, 9, 9})
	return room, room[2 : 2+len(list)]
}

// spoil writes over a tensor, its spare room included.
func spoil(t api.Tensor) {
	for i := range t.Dims[:cap(t.Dims)] {
		t.Dims[:cap(t.Dims)][i] = 99
	}
	for i := range t.V[:cap(t.V)] {
		t.V[:cap(t.V)][i] = 99
	}
}
