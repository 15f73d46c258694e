package matm_test

import (
	"fmt"
	"math"
	"math/big"
	"slices"
	"testing"

	"carousel/api"
	"carousel/matm"
	"carousel/tens"
)

// exactSum gathers the numbers of each sum by their places, and sums them then.
func exactSum(a api.Tensor, side int) api.Tensor {
	rest := slices.Concat(a.Dims[:side], a.Dims[side+1:])
	sums := api.Tensor{Dims: rest}
	outer := make([]int, len(rest))
	for range sizeOf(rest) {
		var along []api.Fix
		for n := range a.Dims[side] {
			along = append(along, numberAt(a, slices.Concat(outer[:side], []int{n}, outer[side:])))
		}
		sums.V = append(sums.V, held(exactTotal(along)))
		onward(rest, outer)
	}
	return sums
}

func TestSum(t *testing.T) {
	for _, c := range []struct {
		a    api.Tensor
		side int
		want api.Tensor
	}{
		{counted([]int{2, 3}), 0, tensor([]int{3}, 5, 7, 9)}, {counted([]int{2, 3}), 1, tensor([]int{2}, 6, 15)},
		{counted([]int{2, 1, 3}), 0, tensor([]int{1, 3}, 5, 7, 9)}, {counted([]int{2, 1, 3}), 1, tensor([]int{2, 3}, 1, 2, 3, 4, 5, 6)}, {counted([]int{2, 1, 3}), 2, tensor([]int{2, 1}, 6, 15)},
		{counted([]int{2, 2, 2}), 0, tensor([]int{2, 2}, 6, 8, 10, 12)}, {counted([]int{2, 2, 2}), 1, tensor([]int{2, 2}, 4, 6, 12, 14)}, {counted([]int{2, 2, 2}), 2, tensor([]int{2, 2}, 3, 7, 11, 15)},
		{counted([]int{1, 2, 1, 2}), 0, tensor([]int{2, 1, 2}, 1, 2, 3, 4)}, {counted([]int{1, 2, 1, 2}), 1, tensor([]int{1, 1, 2}, 4, 6)}, {counted([]int{1, 2, 1, 2}), 2, tensor([]int{1, 2, 2}, 1, 2, 3, 4)}, {counted([]int{1, 2, 1, 2}), 3, tensor([]int{1, 2, 1}, 3, 7)},
		// Along the only side: one number, and no side.
		{counted([]int{3}), 0, tensor(nil, 6)}, {tensor([]int{1}, -5), 0, tensor(nil, -5)}, {tensor([]int{1, 1}, 7), 1, tensor([]int{1}, 7)},
	} {
		got, err := matm.Sum(c.a, c.side)
		want(t, fmt.Sprintf("Sum of %v along %d", c.a, c.side), got, err, c.want)
	}
}

func TestSumIsHeldOnce(t *testing.T) {
	for _, c := range []struct {
		v    []api.Fix
		want api.Fix
	}{
		{[]api.Fix{top, 1}, top}, {[]api.Fix{top, top}, top}, {[]api.Fix{top - 1, 1}, top}, {[]api.Fix{low, -1}, low}, {[]api.Fix{low, low}, low}, {[]api.Fix{low + 1, -1}, low},
		{[]api.Fix{top, 1, -5}, top - 4}, {[]api.Fix{1, top, -5}, top - 4}, {[]api.Fix{-5, top, 1}, top - 4}, {[]api.Fix{low, -1, 5}, low + 4}, {[]api.Fix{-1, low, 5}, low + 4}, {[]api.Fix{5, low, -1}, low + 4},
		{[]api.Fix{top, top, -top}, top}, {[]api.Fix{top, top, low, low}, -2}, {[]api.Fix{low, low, top, top}, -2}, {[]api.Fix{low, low, top}, low}, {[]api.Fix{low, top}, -1}, {[]api.Fix{top, 1, 1, -2}, top}, {[]api.Fix{low, -3, 3}, low},
	} {
		got, err := matm.Sum(tensor([]int{len(c.v)}, c.v...), 0)
		want(t, fmt.Sprintf("Sum of %v", c.v), got, err, tensor(nil, c.want))
		if got, err := matm.All(tensor([]int{len(c.v)}, c.v...)); got != c.want || err != api.OK {
			t.Errorf("P7.1: All of %v: %d, %d, want %d", c.v, got, err, c.want)
		}
	}
	// Each sum of several is held by itself, along either side.
	got, err := matm.Sum(tensor([]int{3, 2}, top, low, 1, -1, -5, 5), 0)
	want(t, "Sum along the first side", got, err, tensor([]int{2}, top-4, low+4))
	got, err = matm.Sum(tensor([]int{2, 3}, top, 1, -5, low, -1, -5), 1)
	want(t, "Sum along the second side", got, err, tensor([]int{2}, top-4, low))
}

func TestSumOfManyShapes(t *testing.T) {
	for i, d := range someShapes() {
		for _, a := range []api.Tensor{counted(d), small(int64(i), d), strewn(int64(i), d)} {
			for side := range d {
				got, err := matm.Sum(a, side)
				want(t, fmt.Sprintf("Sum of shape %v along %d", d, side), got, err, exactSum(a, side))
				if !tens.Good(got) {
					t.Errorf("P7.1: Sum of shape %v along %d is no tensor: %v", d, side, short(got))
				}
			}
			for _, side := range []int{-1, -2, -len(d), -len(d) - 1, math.MinInt, len(d), len(d) + 1, api.MaxDims, math.MaxInt} {
				if side < 0 || side >= len(d) {
					got, err := matm.Sum(a, side)
					refused(t, fmt.Sprintf("Sum of shape %v along %d", d, side), got, err, api.EARG)
				}
			}
		}
	}
}

func TestSumOfNoTensor(t *testing.T) {
	for _, none := range noTensors() {
		for _, side := range []int{0, 1, 2, 3, 4, 5, -1, 999, math.MinInt, math.MaxInt} {
			got, err := matm.Sum(none, side)
			refused(t, fmt.Sprintf("Sum of %v along %d", short(none), side), got, err, api.EARG)
		}
	}
}

func TestAllAndMean(t *testing.T) {
	for _, c := range []struct {
		a         api.Tensor
		all, mean api.Fix
	}{
		{tensor([]int{2, 2}, 1, 2, 3, 4), 10, 2}, {tensor([]int{2, 2}, -1, -2, -3, -4), -10, -2}, {counted([]int{2, 3, 1, 2}), 78, 6}, {tensor([]int{3}, whole(3, 4, 5)...), 12 * api.One, 4 * api.One},
		{tensor([]int{3}, 1, 2, 2), 5, 2}, {tensor([]int{3}, 1, 1, 2), 4, 1}, {tensor([]int{3}, -1, -2, -2), -5, -2}, {tensor([]int{3}, -1, -1, -2), -4, -1},
		// Half way: to the even one.
		{tensor([]int{2}, 0, 1), 1, 0}, {tensor([]int{2}, 1, 2), 3, 2}, {tensor([]int{2}, 2, 3), 5, 2}, {tensor([]int{2}, 3, 4), 7, 4},
		{tensor([]int{2}, 0, -1), -1, 0}, {tensor([]int{2}, -1, -2), -3, -2}, {tensor([]int{2}, -2, -3), -5, -2}, {tensor([]int{2}, -3, -4), -7, -4}, {tensor([]int{4}, 1, 1, 1, 3), 6, 2}, {tensor([]int{4}, -1, -1, -1, -3), -6, -2}, {tensor([]int{4}, 3, 3, 3, 1), 10, 2},
		// One number, with and without a side.
		{tensor(nil, 9), 9, 9}, {tensor([]int{}, -9), -9, -9}, {tensor([]int{1}, top), top, top}, {tensor([]int{1, 1, 1, 1}, low), low, low}, {tensor(nil, top), top, top}, {tensor(nil, low), low, low}, {tensor(nil, 0), 0, 0},
		// The sum is held, the mean goes by what it is without that.
		{tensor([]int{3}, top, top, top), top, top}, {tensor([]int{3}, low, low, low), low, low}, {tensor([]int{2}, top, top-2), top, top - 1}, {tensor([]int{2}, low, low+2), low, low + 1}, {tensor([]int{4}, top, top, 0, 0), top, 1 << 62}, {tensor([]int{4}, low, low, 0, 0), low, -1 << 62},
		{tensor([]int{2}, top, low), -1, 0}, {tensor([]int{2}, top, top-1), top, top - 1}, {tensor([]int{2}, low, low+1), low, low},
	} {
		if got, err := matm.All(c.a); got != c.all || err != api.OK {
			t.Errorf("P7.1: All of %v: %d, %d, want %d", c.a, got, err, c.all)
		}
		if got, err := matm.Mean(c.a); got != c.mean || err != api.OK {
			t.Errorf("P7.1: Mean of %v: %d, %d, want %d", c.a, got, err, c.mean)
		}
	}
}

func TestAllAndMeanOfManyShapes(t *testing.T) {
	for i, d := range someShapes() {
		full := api.Tensor{Dims: d, V: slices.Repeat([]api.Fix{low}, sizeOf(d))}
		for _, a := range []api.Tensor{counted(d), small(int64(i), d), strewn(int64(i), d), full} {
			all, err := matm.All(a)
			if all != held(exactTotal(a.V)) || err != api.OK {
				t.Errorf("P7.1: All of shape %v: %d, %d, want %d", d, all, err, held(exactTotal(a.V)))
			}
			mean, err := matm.Mean(a)
			if wanted := held(nearestWhole(exactTotal(a.V), big.NewInt(int64(len(a.V))))); mean != wanted || err != api.OK {
				t.Errorf("P7.1: Mean of shape %v: %d, %d, want %d", d, mean, err, wanted)
			}
		}
	}
}

func TestAllAndMeanOfNoTensor(t *testing.T) {
	for _, none := range noTensors() {
		if got, err := matm.All(none); got != 0 || err != api.EARG {
			t.Errorf("P7.1: All of %v: %d, %d", short(none), got, err)
		}
		if got, err := matm.Mean(none); got != 0 || err != api.EARG {
			t.Errorf("P7.1: Mean of %v: %d, %d", short(none), got, err)
		}
	}
}
