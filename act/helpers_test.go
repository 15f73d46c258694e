package act_test

import (
	"math"
	"math/big"
	"math/rand"
	"slices"
	"testing"

	"carousel/api"
)

const (
	one    = api.One
	half   = api.One / 2
	eighth = api.One / 8
	top    = api.Top
	low    = api.Low
)

// The exact values that the tests hold the answers against are fractions of whole numbers without
// bounds: they share nothing with the way in which the package reckons.

// parts tells so many parts, as a fraction.
func parts(x api.Fix) *big.Rat { return new(big.Rat).SetInt64(int64(x)) }

// times multiplies by a fraction.
func times(v *big.Rat, over, by int64) *big.Rat { return new(big.Rat).Mul(v, big.NewRat(over, by)) }

// told rounds to the nearest whole number of parts, of two that are as near to the even one, and holds it.
func told(v *big.Rat) api.Fix {
	lower, rest := new(big.Int).DivMod(v.Num(), v.Denom(), new(big.Int))
	side := rest.Lsh(rest, 1).Cmp(v.Denom())
	if side > 0 || side == 0 && lower.Bit(0) == 1 {
		lower.Add(lower, big.NewInt(1))
	}
	switch {
	case lower.IsInt64():
		return api.Fix(lower.Int64())
	case lower.Sign() < 0:
		return low
	}
	return top
}

// exactOf reckons a line by whole numbers without bounds.
func exactOf(kind int, x api.Fix) api.Fix {
	v := parts(x)
	switch kind {
	case 1:
		if v.Sign() < 0 {
			v.SetInt64(0)
		}
	case 2:
		if v.Sign() < 0 {
			v = times(v, 1, 8)
		}
	case 3:
		v = within(v, parts(-one), parts(one))
	case 4:
		v.Abs(v)
	case 5:
		v = within(v.Add(parts(told(times(v, 1, 2))), parts(half)), parts(0), parts(one))
	}
	return told(v)
}

// within holds a fraction.
func within(v, least, most *big.Rat) *big.Rat {
	switch {
	case v.Cmp(least) < 0:
		return least
	case v.Cmp(most) > 0:
		return most
	}
	return v
}

// exactSlope tells a slope by the side of each bend on which x lies.
func exactSlope(kind int, x api.Fix) api.Fix {
	sign := parts(x).Sign()
	flat := new(big.Rat).Abs(parts(x)).Cmp(parts(one)) >= 0
	switch {
	case kind == 1:
		return []api.Fix{0, 0, one}[sign+1]
	case kind == 2:
		return []api.Fix{eighth, eighth, one}[sign+1]
	case kind == 4:
		return []api.Fix{-one, 0, one}[sign+1]
	case flat:
		return 0
	case kind == 3:
		return one
	}
	return half
}

// exactMul multiplies two numbers.
func exactMul(a, b api.Fix) api.Fix { return told(times(parts(a), int64(b), int64(one))) }

// kinds are all that there are; noKinds are some of the others.
func kinds() []int { return []int{1, 2, 3, 4, 5} }

func noKinds() []int {
	return []int{0, -1, -2, -5, 6, 7, 8, 9, 255, 256, 257, 1<<8 + 2, 1<<16 + 3, 1<<32 + 1, 1<<32 + 5, -1<<32 + 4, 1 << 40, math.MaxInt, math.MinInt, math.MinInt + 1}
}

// edges are the numbers at each bend and about it, at powers of two, and at the bounds.
func edges() []api.Fix {
	all := []api.Fix{top, top - 1, top - 2, low, low + 1, low + 2}
	for _, at := range []api.Fix{0, one, half, eighth, 2 * one, 3 * one, one + half, 8 * one} {
		for by := api.Fix(-17); by <= 17; by++ {
			all = append(all, at+by, -at+by)
		}
	}
	for i := range 63 {
		n := api.Fix(1) << i
		for by := api.Fix(-5); by <= 4; by++ {
			all = append(all, n+by, -n-by)
		}
	}
	return all
}

// strewn tells numbers of all sizes, the same in every run.
func strewn(seed int64, many int) []api.Fix {
	r := rand.New(rand.NewSource(seed))
	v := make([]api.Fix, many)
	for i := range v {
		v[i] = api.Fix(r.Uint64()) >> r.Intn(64)
		switch r.Intn(12) {
		case 0:
			v[i] = []api.Fix{top, low, 0}[r.Intn(3)]
		case 1:
			v[i] = []api.Fix{one, -one}[r.Intn(2)] + api.Fix(r.Intn(3)-1)
		}
	}
	return v
}

func tensor(d []int, v ...api.Fix) api.Tensor { return api.Tensor{Dims: d, V: v} }

// filled has numbers of all sizes.
func filled(seed int64, d ...int) api.Tensor { return tensor(d, strewn(seed, sizeOf(d))...) }

func sizeOf(d []int) int {
	size := 1
	for _, side := range d {
		size *= side
	}
	return size
}

// someShapes are of each length, with sides of 1 in all places, of size 1 and of MaxSize too.
func someShapes() [][]int {
	return [][]int{
		nil, {}, {1}, {2}, {3}, {6}, {4095}, {4096}, {1, 1}, {1, 3}, {3, 1}, {2, 3}, {3, 2}, {1, 6}, {6, 1}, {64, 64}, {1, 4096}, {4096, 1}, {2, 2048},
		{1, 1, 1}, {1, 2, 3}, {2, 1, 3}, {2, 3, 1}, {2, 3, 4}, {16, 16, 16}, {4096, 1, 1}, {1, 1, 1, 1}, {1, 1, 2, 3}, {2, 3, 4, 5}, {8, 8, 8, 8}, {1, 1, 1, 4096}, {1, 64, 1, 64},
	}
}

// noTensors are such as have no shape, whatever their V, and such as have one and another V.
func noTensors() []api.Tensor {
	all := []api.Tensor{
		{}, {Dims: []int{}, V: []api.Fix{}}, tensor(nil, 1, 2), tensor([]int{1}), tensor([]int{1}, 1, 2), tensor([]int{1, 1}), tensor([]int{3}, 1), tensor([]int{3}, 1, 2), tensor([]int{3}, 1, 2, 3, 4),
		tensor([]int{2, 3}), tensor([]int{2, 3}, 1), tensor([]int{2, 3}, 1, 2, 3, 4, 5), tensor([]int{2, 3}, 1, 2, 3, 4, 5, 6, 7), tensor([]int{1, 2, 2}, 1, 2, 3),
		{Dims: []int{2, 3}, V: make([]api.Fix, 5, 6)}, {Dims: []int{64, 64}}, {Dims: []int{4096}, V: make([]api.Fix, 4095)}, {Dims: []int{4096}, V: make([]api.Fix, 4097)},
		{Dims: []int{4097}, V: make([]api.Fix, 4097)}, {Dims: []int{64, 65}, V: make([]api.Fix, 4160)},
		tensor([]int{1, 1, 1, 1, 1}, 1), tensor([]int{-2, -3}, 1, 2, 3, 4, 5, 6), tensor([]int{-1, -1}, 1),
	}
	for _, d := range [][]int{
		{0}, {-1}, {0, 0}, {2, 0}, {0, 3}, {2, 3, 4, -1}, {4096, 2}, {4096, 4096, 4096, 4096}, {2, 3, 1, 1, 1},
		{math.MaxInt}, {math.MinInt}, {1 << 32, 1 << 32}, {1 << 62, 4}, {math.MinInt, math.MinInt}, {4096, 1<<52 + 1},
	} {
		all = append(all, tensor(d), tensor(d, 1), tensor(d, 1, 2, 3, 4, 5, 6))
	}
	return all
}

// alike compares with no call of the packages below.
func alike(a, b api.Tensor) bool { return slices.Equal(a.Dims, b.Dims) && slices.Equal(a.V, b.V) }

// want holds an answer against what it must be.
func want(t *testing.T, what string, got api.Tensor, err api.Errno, wanted api.Tensor) {
	t.Helper()
	if err != api.OK || !alike(got, wanted) {
		t.Errorf("P9.1: %s: %v, %d, want %v", what, short(got), err, short(wanted))
	}
}

// refused asks for an error, and for nothing beside it.
func refused(t *testing.T, what string, got api.Tensor, err, wanted api.Errno) {
	t.Helper()
	if err != wanted || len(got.Dims) != 0 || len(got.V) != 0 {
		t.Errorf("P9.1: %s: %v, %d, want no tensor, %d", what, short(got), err, wanted)
	}
}

// short leaves out what nobody would read.
func short(t api.Tensor) api.Tensor {
	return api.Tensor{Dims: t.Dims[:min(len(t.Dims), 6)], V: t.V[:min(len(t.V), 24)]}
}

// inRoom lays a list in a wider one, so that there is room ahead of it and spare room behind it.
func inRoom[T int | api.Fix](list []T) (room, part []T) {
	room = slices.Concat([]T{9, 9}, list, []T{9, 9, 9, 9, 9})
	return room, room[2 : 2+len(list)]
}

// spoil writes over a list, its spare room included.
func spoil[T int | api.Fix](list []T) {
	for i := range list[:cap(list)] {
		list[:cap(list)][i] = 99
	}
}
