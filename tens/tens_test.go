package tens_test

import (
	"fmt"
	"slices"
	"testing"

	"carousel/api"
	"carousel/fix"
	"carousel/tens"
)

const half = api.One / 2

func TestGood(t *testing.T) {
	for _, d := range someShapes() {
		size := sizeOf(d)
		for _, n := range []int{0, 1, size - 1, size, size + 1, 2 * size} {
			if got := tens.Good(api.Tensor{Dims: d, V: make([]api.Fix, n)}); got != (n == size) {
				t.Errorf("P6.1: Good of %v with %d numbers: %v", d, n, got)
			}
		}
		if tens.Good(api.Tensor{Dims: d}) {
			t.Errorf("P6.1: Good of %v with no V", d)
		}
	}
	for _, none := range noTensors() {
		if tens.Good(none) {
			t.Errorf("P6.1: Good of %v", short(none))
		}
	}
	if !tens.Good(tensor(nil, 1)) || !tens.Good(tensor([]int{}, 1)) || tens.Good(api.Tensor{}) {
		t.Errorf("P6.1: Good of the tensor of no side, or of the zero Tensor")
	}
	if !tens.Good(tensor([]int{2}, api.Top, api.Low)) {
		t.Errorf("P6.1: Good of numbers at the bounds")
	}
}

func TestNew(t *testing.T) {
	for _, d := range someShapes() {
		for _, v := range []api.Fix{0, 1, -1, api.One, api.Top, api.Low} {
			got, err := tens.New(d, v)
			want(t, fmt.Sprintf("New(%v, %d)", d, v), got, err, tensor(d, slices.Repeat([]api.Fix{v}, sizeOf(d))...))
		}
	}
	for _, d := range noShapes() {
		got, err := tens.New(d, 9)
		refused(t, fmt.Sprintf("New(%v)", d), got, err, api.EARG)
	}
}

func TestSame(t *testing.T) {
	all := []api.Tensor{
		tensor(nil, 1), tensor([]int{1}, 1), tensor([]int{1, 1}, 1), tensor(nil, 2), tensor([]int{1}, 2),
		tensor([]int{2, 3}, 1, 2, 3, 4, 5, 6), tensor([]int{3, 2}, 1, 2, 3, 4, 5, 6), tensor([]int{6}, 1, 2, 3, 4, 5, 6),
		tensor([]int{2, 3, 1}, 1, 2, 3, 4, 5, 6), tensor([]int{1, 2, 3}, 1, 2, 3, 4, 5, 6),
		tensor([]int{2, 3}, 1, 2, 3, 4, 5, 7), tensor([]int{2, 3}, 0, 2, 3, 4, 5, 6), tensor([]int{2, 3}, 6, 5, 4, 3, 2, 1),
		tensor([]int{2}, api.Top, api.Low), tensor([]int{2}, api.Low, api.Top), counted([]int{64, 64}), counted([]int{4096}),
	}
	for i, a := range all {
		for j, b := range all {
			b = api.Tensor{Dims: slices.Clone(b.Dims), V: slices.Clone(b.V)}
			if got := tens.Same(a, b); got != (i == j) {
				t.Errorf("P6.1: Same(%v, %v): %v", short(a), short(b), got)
			}
		}
	}
	if !tens.Same(tensor(nil, 1), tensor([]int{}, 1)) || !tens.Same(tensor([]int{}, 1), tensor(nil, 1)) {
		t.Errorf("P6.1: Same: nil and an empty list are one")
	}
	last := counted([]int{4096})
	last.V[4095]++
	if tens.Same(last, counted([]int{4096})) {
		t.Errorf("P6.1: Same of tensors that differ in the last number")
	}
	if tens.Same(tensor([]int{2, 3}, 1), tensor([]int{2, 3}, 1, 2, 3, 4, 5, 6)) || tens.Same(api.Tensor{}, tensor(nil, 0)) {
		t.Errorf("P6.1: Same of a tensor and one that is none")
	}
}

func TestScale(t *testing.T) {
	for _, c := range []struct {
		k        api.Fix
		of, want []api.Fix
	}{
		{half, []api.Fix{1, 2, 3, 4, 5, 6, -1, -2, -3, 0}, []api.Fix{0, 1, 2, 2, 2, 3, 0, -1, -2, 0}},
		{0, []api.Fix{1, -1, api.One, api.Top, api.Low}, []api.Fix{0, 0, 0, 0, 0}},
		{api.One, []api.Fix{0, 1, -1, api.One, api.Top, api.Low}, []api.Fix{0, 1, -1, api.One, api.Top, api.Low}},
		{-api.One, []api.Fix{7, -7, api.Top, api.Low}, []api.Fix{-7, 7, -api.Top, api.Top}},
		{2 * api.One, []api.Fix{3, api.Top, api.Low, api.Top/2 + 1}, []api.Fix{6, api.Top, api.Low, api.Top}},
		{api.Top, []api.Fix{api.Top, api.Low, 2, 0}, []api.Fix{api.Top, api.Low, api.One, 0}},
		{1, []api.Fix{half, half + 1, 3 * half, -half, api.One, 7}, []api.Fix{0, 1, 2, 0, 1, 0}},
	} {
		for _, d := range [][]int{{len(c.of)}, {1, len(c.of)}, {len(c.of), 1, 1}} {
			got, err := tens.Scale(tensor(d, c.of...), c.k)
			want(t, fmt.Sprintf("Scale(%v %v, %d)", d, c.of, c.k), got, err, tensor(d, c.want...))
		}
	}
	for i, d := range someShapes() {
		a := strewn(int64(i), d)
		wanted := tensor(d)
		for _, v := range a.V {
			wanted.V = append(wanted.V, fix.Mul(v, 3*half+1))
		}
		got, err := tens.Scale(a, 3*half+1)
		want(t, fmt.Sprintf("Scale of %v", d), got, err, wanted)
	}
}

func TestReshape(t *testing.T) {
	for _, from := range someShapes() {
		a := counted(from)
		for _, to := range someShapes() {
			got, err := tens.Reshape(a, to)
			what := fmt.Sprintf("Reshape of %v to %v", from, to)
			if sizeOf(from) == sizeOf(to) {
				want(t, what, got, err, counted(to))
			} else {
				refused(t, what, got, err, api.ESHAPE)
			}
		}
	}
	for _, d := range noShapes() {
		for _, a := range []api.Tensor{tensor(nil, 1), counted([]int{2, 3}), counted([]int{4096})} {
			got, err := tens.Reshape(a, d)
			refused(t, fmt.Sprintf("Reshape of %v to %v", a.Dims, d), got, err, api.EARG)
		}
	}
}

func TestReshapeToAndFromNoSide(t *testing.T) {
	for _, d := range [][]int{nil, {}, {1}, {1, 1}, {1, 1, 1, 1}} {
		got, err := tens.Reshape(tensor(nil, 5), d)
		want(t, fmt.Sprintf("Reshape of no side to %v", d), got, err, tensor(d, 5))
		got, err = tens.Reshape(tensor(d, 5), nil)
		want(t, fmt.Sprintf("Reshape of %v to no side", d), got, err, tensor(nil, 5))
	}
	got, err := tens.Reshape(tensor([]int{2}, 5, 6), nil)
	refused(t, "Reshape of two numbers to no side", got, err, api.ESHAPE)
	got, err = tens.Reshape(tensor(nil, 5), []int{2})
	refused(t, "Reshape of no side to two numbers", got, err, api.ESHAPE)
}

// A tensor that is none is refused ahead of all else: beside it stands what is well, what has an
// error of its own, and another that is none.
func TestWhatIsNoTensorIsRefused(t *testing.T) {
	others := append(noTensors()[:8], tensor(nil, 1), counted([]int{2, 3}), counted([]int{2}), counted([]int{5}), counted([]int{4096}), counted([]int{64, 1}))
	lists := append(noShapes()[:8], nil, []int{6}, []int{5}, []int{2, 3}, []int{3}, []int{0, 1}, []int{1, 0}, []int{0, 0})
	for _, none := range noTensors() {
		what := fmt.Sprint(short(none))
		for _, other := range others {
			for i, call := range []func(a, b api.Tensor) (api.Tensor, api.Errno){tens.Add, tens.Sub, tens.Mul} {
				got, err := call(none, other)
				refused(t, fmt.Sprint("Add, Sub or Mul: ", i, ", ", what, ", ", short(other)), got, err, api.EARG)
				got, err = call(other, none)
				refused(t, fmt.Sprint("Add, Sub or Mul: ", i, ", ", short(other), ", ", what), got, err, api.EARG)
			}
		}
		for _, k := range []api.Fix{0, api.One, api.Top} {
			got, err := tens.Scale(none, k)
			refused(t, "Scale of "+what, got, err, api.EARG)
		}
		for _, list := range lists {
			got, err := tens.Reshape(none, list)
			refused(t, fmt.Sprint("Reshape of ", what, " to ", list), got, err, api.EARG)
			got, err = tens.Turn(none, list)
			refused(t, fmt.Sprint("Turn of ", what, " by ", list), got, err, api.EARG)
			got, err = tens.Fold(none, list)
			refused(t, fmt.Sprint("Fold of ", what, " to ", list), got, err, api.EARG)
		}
		got, err := tens.Reshape(none, none.Dims)
		refused(t, "Reshape to its own Dims of "+what, got, err, api.EARG)
		got, err = tens.Fold(none, none.Dims)
		refused(t, "Fold to its own Dims of "+what, got, err, api.EARG)
	}
}
