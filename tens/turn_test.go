package tens_test

import (
	"fmt"
	"math"
	"slices"
	"testing"

	"carousel/api"
	"carousel/tens"
)

// orders answers each order of n places.
func orders(n int) [][]int {
	numbers := make([]int, n)
	for i := range numbers {
		numbers[i] = i
	}
	var all [][]int
	for _, order := range lists(n, numbers...) {
		sorted := slices.Clone(order)
		slices.Sort(sorted)
		if slices.Equal(sorted, numbers) {
			all = append(all, order)
		}
	}
	return all
}

func TestTurn(t *testing.T) {
	long := counted([]int{2, 1, 3})
	for _, c := range []struct {
		a     api.Tensor
		order []int
		want  api.Tensor
	}{
		{counted([]int{2, 3}), []int{1, 0}, tensor([]int{3, 2}, 1, 4, 2, 5, 3, 6)},
		{counted([]int{2, 3}), []int{0, 1}, counted([]int{2, 3})},
		{long, []int{0, 1, 2}, tensor([]int{2, 1, 3}, 1, 2, 3, 4, 5, 6)},
		{long, []int{0, 2, 1}, tensor([]int{2, 3, 1}, 1, 2, 3, 4, 5, 6)},
		{long, []int{1, 0, 2}, tensor([]int{1, 2, 3}, 1, 2, 3, 4, 5, 6)},
		{long, []int{1, 2, 0}, tensor([]int{1, 3, 2}, 1, 4, 2, 5, 3, 6)},
		{long, []int{2, 0, 1}, tensor([]int{3, 2, 1}, 1, 4, 2, 5, 3, 6)},
		{long, []int{2, 1, 0}, tensor([]int{3, 1, 2}, 1, 4, 2, 5, 3, 6)},
		{counted([]int{2, 2, 2}), []int{1, 2, 0}, tensor([]int{2, 2, 2}, 1, 5, 2, 6, 3, 7, 4, 8)},
		{counted([]int{2, 2, 2}), []int{2, 0, 1}, tensor([]int{2, 2, 2}, 1, 3, 5, 7, 2, 4, 6, 8)},
		{tensor([]int{2, 2}, api.Top, api.Low, 0, -1), []int{1, 0}, tensor([]int{2, 2}, api.Top, 0, api.Low, -1)},
		{tensor([]int{3}, 7, 8, 9), []int{0}, tensor([]int{3}, 7, 8, 9)},
		{tensor(nil, 5), nil, tensor(nil, 5)},
		{tensor([]int{}, 5), []int{}, tensor(nil, 5)},
	} {
		got, err := tens.Turn(c.a, c.order)
		want(t, fmt.Sprintf("Turn of %v by %v", c.a, c.order), got, err, c.want)
	}
}

// The number at a place of a is found where that place is turned to.
func TestTurnOfManyShapes(t *testing.T) {
	for _, d := range someShapes() {
		a := counted(d)
		for _, order := range orders(len(d)) {
			got, err := tens.Turn(a, order)
			if err != api.OK || len(got.Dims) != len(d) || len(got.V) != len(a.V) {
				t.Fatalf("P6.1: Turn of %v by %v: %v, %d", d, order, short(got), err)
			}
			place, turned := make([]int, len(d)), make([]int, len(d))
			for range a.V {
				for i, side := range order {
					turned[i] = place[side]
					if got.Dims[i] != d[side] {
						t.Fatalf("P6.1: Turn of %v by %v: Dims %v", d, order, got.Dims)
					}
				}
				if numberAt(got, turned) != numberAt(a, place) {
					t.Fatalf("P6.1: Turn of %v by %v: %d at %v, want %d", d, order, numberAt(got, turned), turned, numberAt(a, place))
				}
				onward(d, place)
			}
		}
	}
}

func TestTurnRefuses(t *testing.T) {
	for _, d := range [][]int{nil, {1}, {4096}, {2, 3}, {1, 1}, {2, 3, 4}, {2, 2, 2}, {2, 3, 4, 5}} {
		n := len(d)
		wrong := [][]int{slices.Repeat([]int{0}, n+1), make([]int, 1000)}
		for _, order := range orders(n) {
			wrong = append(wrong, append(slices.Clone(order), n), append(slices.Clone(order), 0), append([]int{n}, order...))
			for i := range order {
				wrong = append(wrong, slices.Delete(slices.Clone(order), i, i+1))
				for _, v := range []int{-1, n, n + 1, -n, math.MaxInt, math.MinInt, order[(i+1)%n]} {
					if other := slices.Clone(order); n > 1 || v != 0 {
						other[i] = v
						wrong = append(wrong, other)
					}
				}
			}
		}
		for _, order := range wrong {
			got, err := tens.Turn(counted(d), order)
			refused(t, fmt.Sprintf("Turn of %v by %v", d, order), got, err, api.EARG)
		}
	}
	got, err := tens.Turn(counted([]int{3}), nil)
	refused(t, "Turn of a side by no order", got, err, api.EARG)
	got, err = tens.Turn(tensor(nil, 5), []int{0})
	refused(t, "Turn of no side by an order", got, err, api.EARG)
}
