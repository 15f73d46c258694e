package conv_test

import (
	"fmt"
	"math"
	"slices"
	"testing"

	"carousel/api"
	"carousel/conv"
)

// byOrder sorts each window's places: the greatest first, of alike ones the first.
func byOrder(a api.Tensor, wide int) (api.Tensor, []int) {
	t := api.Tensor{Dims: []int{a.Dims[0], 0}}
	var places []int
	for c := range a.Dims[0] {
		t.Dims[1] = 0
		for from := 0; from+wide <= a.Dims[1]; from += wide {
			var window []int
			for w := range wide {
				window = append(window, c*a.Dims[1]+from+w)
			}
			slices.SortStableFunc(window, func(i, j int) int {
				switch {
				case a.V[i] > a.V[j]:
					return -1
				case a.V[i] < a.V[j]:
					return 1
				}
				return 0
			})
			t.V, places = append(t.V, a.V[window[0]]), append(places, window[0])
			t.Dims[1]++
		}
	}
	return t, places
}

func holdPool(t *testing.T, a api.Tensor, wide int, wanted api.Tensor, wantedPlaces []int) {
	t.Helper()
	got, places, err := conv.Pool(a, wide)
	if err != api.OK || !alike(got, wanted) || !slices.Equal(places, wantedPlaces) {
		t.Errorf("P8.2: Pool of %v, wide %d: %v, %v, %d, want %v, %v", short(a), wide, short(got), places, err, short(wanted), wantedPlaces)
	}
}

func TestPool(t *testing.T) {
	for _, c := range []struct {
		a      api.Tensor
		wide   int
		want   api.Tensor
		places []int
	}{
		{tensor([]int{1, 4}, 1, 3, 4, 2), 2, tensor([]int{1, 2}, 3, 4), []int{1, 2}},
		// The last one is passed over, in each row.
		{tensor([]int{1, 5}, 1, 3, 4, 2, 9), 2, tensor([]int{1, 2}, 3, 4), []int{1, 2}}, {tensor([]int{2, 3}, 1, 2, 9, 4, 3, 9), 2, tensor([]int{2, 1}, 2, 4), []int{1, 3}}, {tensor([]int{1, 5}, 1, 2, 3, 4, 5), 3, tensor([]int{1, 1}, 3), []int{2}},
		// Each number by itself, and the whole row.
		{tensor([]int{1, 3}, 7, 5, 6), 1, tensor([]int{1, 3}, 7, 5, 6), []int{0, 1, 2}}, {tensor([]int{2, 2}, 7, 5, 6, 8), 1, tensor([]int{2, 2}, 7, 5, 6, 8), []int{0, 1, 2, 3}}, {tensor([]int{2, 3}, 7, 5, 6, 8, 9, 0), 3, tensor([]int{2, 1}, 7, 9), []int{0, 4}}, {tensor([]int{3, 1}, 7, 5, 6), 1, tensor([]int{3, 1}, 7, 5, 6), []int{0, 1, 2}}, {tensor([]int{1, 1}, -7), 1, tensor([]int{1, 1}, -7), []int{0}},
		// Of alike ones the first.
		{tensor([]int{2, 3}, 5, 5, 4, 1, 2, 2), 3, tensor([]int{2, 1}, 5, 2), []int{0, 4}}, {tensor([]int{1, 6}, 0, 0, 0, 0, 0, 0), 3, tensor([]int{1, 2}, 0, 0), []int{0, 3}}, {tensor([]int{1, 4}, top, top, low, low), 2, tensor([]int{1, 2}, top, low), []int{0, 2}},
		// Below 0, and the least.
		{tensor([]int{1, 4}, -3, -2, -1, -4), 2, tensor([]int{1, 2}, -2, -1), []int{1, 2}}, {tensor([]int{1, 4}, low, low, low, low+1), 2, tensor([]int{1, 2}, low, low+1), []int{0, 3}}, {tensor([]int{1, 3}, low, low, low), 3, tensor([]int{1, 1}, low), []int{0}}, {tensor([]int{1, 4}, low, top, top, low), 2, tensor([]int{1, 2}, top, top), []int{1, 2}},
	} {
		holdPool(t, c.a, c.wide, c.want, c.places)
	}
}

func TestPoolOfManyRows(t *testing.T) {
	for rows := 1; rows <= 4; rows++ {
		for long := 1; long <= 12; long++ {
			for wide := 1; wide <= long; wide++ {
				seed := int64(rows*1000 + long*20 + wide)
				for _, a := range []api.Tensor{few(seed, rows, long), strewn(seed, rows, long), small(seed, rows, long), counted(rows, long)} {
					wanted, places := byOrder(a, wide)
					holdPool(t, a, wide, wanted, places)
				}
			}
		}
	}
	for _, d := range [][3]int{{1, 4096, 1}, {1, 4096, 4096}, {1, 4096, 4095}, {1, 4096, 2049}, {1, 4096, 2048}, {1, 4096, 65}, {64, 64, 1}, {64, 64, 64}, {64, 64, 33}, {4096, 1, 1}, {5, 800, 7}} {
		a := few(9, d[0], d[1])
		wanted, places := byOrder(a, d[2])
		holdPool(t, a, d[2], wanted, places)
	}
}

func TestPoolRefused(t *testing.T) {
	hold := func(a api.Tensor, wide int, wanted api.Errno) {
		t.Helper()
		got, places, err := conv.Pool(a, wide)
		if err != wanted || len(got.Dims) != 0 || len(got.V) != 0 || len(places) != 0 {
			t.Errorf("P8.2: Pool of %v, wide %d: %v, %v, %d, want nothing and %d", short(a), wide, short(got), places, err, wanted)
		}
	}
	widths := []int{math.MinInt, -4096, -1, 0, 1, 2, 3, 4, 4096, 4097, math.MaxInt}
	for _, wide := range widths {
		for _, bad := range noTensors() {
			hold(bad, wide, api.EARG)
		}
		// Sides are asked for ahead of the width.
		for _, other := range append(otherSides(), counted(1, 1, 3), counted(2, 2, 2)) {
			hold(other, wide, api.ESHAPE)
		}
		for _, d := range [][2]int{{1, 1}, {1, 3}, {3, 1}, {4, 2}, {64, 64}, {1, 4096}, {4096, 1}} {
			if a := counted(d[0], d[1]); wide < 1 || wide > d[1] {
				hold(a, wide, api.EARG)
			} else {
				wanted, places := byOrder(a, wide)
				holdPool(t, a, wide, wanted, places)
			}
		}
	}
	hold(counted(3, 4), 5, api.EARG)
	hold(counted(64, 64), 65, api.EARG)
	if got := fmt.Sprint(conv.Pool(api.Tensor{}, 1)); got != "{[] []} [] error 1" {
		t.Errorf("P8.2: Pool of nothing: %s", got)
	}
}
