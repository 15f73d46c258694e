package conv_test

import (
	"math"
	"math/big"
	"math/rand"
	"slices"
	"testing"

	"carousel/api"
)

const (
	half = api.One / 2
	top  = api.Top
	low  = api.Low
)

// The exact values that the tests hold the answers against are whole numbers without bounds: they
// share nothing with the way in which the package reckons.

// exactSum gathers products.
type exactSum struct{ sum big.Int }

func (s *exactSum) add(a, b api.Fix) {
	s.sum.Add(&s.sum, new(big.Int).Mul(big.NewInt(int64(a)), big.NewInt(int64(b))))
}

func (s *exactSum) told() api.Fix { return held(nearestWhole(&s.sum, big.NewInt(int64(api.One)))) }

// nearestWhole rounds over/by, by above 0, to the nearest, of two that are as near to the even one.
func nearestWhole(over, by *big.Int) *big.Int {
	lower, rest := new(big.Int).DivMod(over, by, new(big.Int))
	side := rest.Lsh(rest, 1).Cmp(by)
	if side > 0 || side == 0 && lower.Bit(0) == 1 {
		lower.Add(lower, big.NewInt(1))
	}
	return lower
}

func held(v *big.Int) api.Fix {
	switch {
	case v.IsInt64():
		return api.Fix(v.Int64())
	case v.Sign() < 0:
		return api.Low
	}
	return api.Top
}

func tensor(d []int, v ...api.Fix) api.Tensor { return api.Tensor{Dims: d, V: v} }

// whole tells a tensor of whole numbers.
func whole(d []int, numbers ...int64) api.Tensor {
	t := api.Tensor{Dims: d}
	for _, n := range numbers {
		t.V = append(t.V, api.Fix(n)*api.One)
	}
	return t
}

// counted has the whole numbers 1, 2, 3 and so on: no two of its places are alike.
func counted(d ...int) api.Tensor {
	v := make([]api.Fix, sizeOf(d))
	for i := range v {
		v[i] = api.Fix(i+1) * api.One
	}
	return api.Tensor{Dims: d, V: v}
}

// strewn has numbers of all sizes, the bounds among them, the same in every run.
func strewn(seed int64, d ...int) api.Tensor {
	r := rand.New(rand.NewSource(seed))
	v := make([]api.Fix, sizeOf(d))
	for i := range v {
		v[i] = api.Fix(r.Uint64()) >> r.Intn(64)
		switch r.Intn(6) {
		case 0:
			v[i] = api.Top
		case 1:
			v[i] = api.Low
		}
	}
	return api.Tensor{Dims: d, V: v}
}

// small has numbers whose products seldom are held: their sums show each last bit.
func small(seed int64, d ...int) api.Tensor {
	r := rand.New(rand.NewSource(seed))
	v := make([]api.Fix, sizeOf(d))
	for i := range v {
		v[i] = api.Fix(r.Uint64()) >> (22 + r.Intn(12))
	}
	return api.Tensor{Dims: d, V: v}
}

// few has small whole numbers, many of them alike.
func few(seed int64, d ...int) api.Tensor {
	r := rand.New(rand.NewSource(seed))
	v := make([]api.Fix, sizeOf(d))
	for i := range v {
		v[i] = api.Fix(r.Intn(5) - 3)
	}
	return api.Tensor{Dims: d, V: v}
}

func sizeOf(d []int) int {
	size := 1
	for _, side := range d {
		size *= side
	}
	return size
}

// at2 and at3 find a number by its place.
func at2(t api.Tensor, i, j int) api.Fix { return t.V[i*t.Dims[1]+j] }

func at3(t api.Tensor, i, j, k int) api.Fix { return t.V[(i*t.Dims[1]+j)*t.Dims[2]+k] }

// noTensors are such as have no shape, whatever their V, and such as have one and another V.
func noTensors() []api.Tensor {
	all := []api.Tensor{
		{}, {Dims: []int{}, V: []api.Fix{}}, tensor(nil, 1, 2), tensor([]int{1}), tensor([]int{1}, 1, 2), tensor([]int{1, 1}), tensor([]int{1, 1}, 1, 2), tensor([]int{1, 1, 1}), tensor([]int{1, 1, 1}, 1, 2),
		tensor([]int{2, 3}), tensor([]int{2, 3}, 1), tensor([]int{2, 3}, 1, 2, 3, 4, 5), tensor([]int{2, 3}, 1, 2, 3, 4, 5, 6, 7), tensor([]int{1, 2, 2}, 1, 2, 3), tensor([]int{1, 2, 2}, 1, 2, 3, 4, 5),
		{Dims: []int{2, 3}, V: make([]api.Fix, 5, 6)}, {Dims: []int{64, 64}}, {Dims: []int{64, 64}, V: make([]api.Fix, 4095)},
		{Dims: []int{1, 4097}, V: make([]api.Fix, 4097)}, {Dims: []int{64, 65}, V: make([]api.Fix, 4160)}, {Dims: []int{1, 1, 4097}, V: make([]api.Fix, 4097)},
		tensor([]int{1, 1, 1, 1, 1}, 1), tensor([]int{-2, -3}, 1, 2, 3, 4, 5, 6), tensor([]int{-1, -1}, 1), tensor([]int{1, -1, -1}, 1),
	}
	for _, d := range [][]int{
		{0}, {-1}, {0, 0}, {2, 0}, {0, 3}, {0, 3, 2}, {2, 3, 0}, {2, 3, 4, -1}, {64, 65}, {4096, 2}, {4096, 4096, 4096}, {2, 3, 1, 1, 1},
		{math.MaxInt, 1}, {1, math.MinInt}, {1 << 32, 1 << 32}, {1 << 62, 4}, {1, math.MinInt, math.MinInt}, {4096, 1<<52 + 1},
	} {
		all = append(all, tensor(d), tensor(d, 1), tensor(d, 1, 2, 3, 4, 5, 6))
	}
	return all
}

// otherSides are tensors that have neither two sides nor three.
func otherSides() []api.Tensor {
	return []api.Tensor{tensor(nil, 1), tensor([]int{1}, 1), counted(2), counted(4096), tensor([]int{1, 1, 1, 1}, 1), counted(1, 2, 1, 2), counted(8, 8, 8, 8)}
}

// badSteps lie outside 1 to 64.
func badSteps() []int { return []int{0, -1, -64, 65, 66, 4096, math.MaxInt, math.MinInt} }

// badLengths lie outside 1 to MaxSize.
func badLengths() []int { return []int{0, -1, -4096, 4097, 4098, math.MaxInt, math.MinInt} }

// alike compares with no call of the packages below.
func alike(a, b api.Tensor) bool { return slices.Equal(a.Dims, b.Dims) && slices.Equal(a.V, b.V) }

// want holds an answer against what it must be.
func want(t *testing.T, what string, got api.Tensor, err api.Errno, wanted api.Tensor) {
	t.Helper()
	if err != api.OK || !alike(got, wanted) {
		t.Errorf("P8.1: %s: %v, %d, want %v", what, short(got), err, short(wanted))
	}
}

// refused asks for an error, and for nothing beside it.
func refused(t *testing.T, what string, got api.Tensor, err, wanted api.Errno) {
	t.Helper()
	if err != wanted || len(got.Dims) != 0 || len(got.V) != 0 {
		t.Errorf("P8.1: %s: %v, %d, want no tensor, %d", what, short(got), err, wanted)
	}
}

// short leaves out what nobody would read.
func short(t api.Tensor) api.Tensor {
	return api.Tensor{Dims: t.Dims[:min(len(t.Dims), 6)], V: t.V[:min(len(t.V), 24)]}
}

// slid is how windows go over rows.
type slid struct{ rows, long, outs, wide, step int }

func (s slid) stops() int {
	n := 0
	for from := 0; from+s.wide <= s.long; from += s.step {
		n++
	}
	return n
}

// manySlides are small ones of each kind, and such as reach the limits; all three tensors are some.
func manySlides() []slid {
	var all []slid
	for rows := 1; rows <= 3; rows++ {
		for outs := 1; outs <= 3; outs++ {
			for long := 1; long <= 7; long++ {
				for wide := 1; wide <= long; wide++ {
					for _, step := range []int{1, 2, 3, 6, 7, 63, 64} {
						all = append(all, slid{rows, long, outs, wide, step})
					}
				}
			}
		}
	}
	return append(all,
		slid{1, 4096, 1, 1, 1}, slid{1, 4096, 1, 4096, 1}, slid{1, 4096, 1, 4096, 64}, slid{1, 4096, 64, 1, 64}, slid{1, 4096, 64, 64, 64}, slid{1, 4096, 64, 2, 64}, slid{1, 4096, 32, 65, 63},
		slid{4096, 1, 1, 1, 1}, slid{64, 64, 1, 64, 1}, slid{64, 64, 64, 1, 1}, slid{64, 64, 1, 1, 64}, slid{2, 2048, 2, 1, 1}, slid{16, 256, 1, 256, 9}, slid{1, 130, 5, 3, 64}, slid{1, 129, 5, 1, 64}, slid{1, 128, 5, 1, 64},
		slid{1, 300, 1, 128, 1}, slid{1, 4096, 1, 4000, 1}, slid{1, 1, 4096, 1, 1}, slid{5, 65, 3, 1, 64}, slid{5, 64, 3, 1, 64})
}

// inRoom lays a list in a wider one, so that there is room ahead of it and spare room behind it.
func inRoom[T int | api.Fix](list []T) (room, part []T) {
	room = slices.Concat([]T{9, 9}, list, []T{9, 9, 9, 9, 9})
	return room, room[2 : 2+len(list)]
}

// spoil writes over a list, its spare room included.
func spoil[T int | api.Fix](list []T) {
	for i := range list[:cap(list)] {
		list[:cap(list)][i] = 99
	}
}
