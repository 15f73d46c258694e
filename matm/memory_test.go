package matm_test

import (
	"fmt"
	"slices"
	"testing"

	"carousel/api"
	"carousel/matm"
)

// laid is a tensor with room about both its lists, as they were.
type laid struct {
	t                 api.Tensor
	dims, dimsBefore  []int
	numbers, vsBefore []api.Fix
}

func lay(t api.Tensor) laid {
	var l laid
	l.dims, l.t.Dims = inRoom(t.Dims)
	l.numbers, l.t.V = inRoom(t.V)
	l.dimsBefore, l.vsBefore = slices.Clone(l.dims), slices.Clone(l.numbers)
	return l
}

func (l laid) stayed() bool {
	return slices.Equal(l.dims, l.dimsBefore) && slices.Equal(l.numbers, l.vsBefore)
}

// handedIn are such as are taken and such as are refused.
func handedIn() []api.Tensor {
	return append(noTensors(),
		tensor(nil, 5), tensor([]int{1}, 5), tensor([]int{1, 1}, 5), counted([]int{3}), counted([]int{2, 3}), counted([]int{3, 2}), counted([]int{2, 1}), counted([]int{1, 2}), counted([]int{2, 3, 4}),
		counted([]int{4096}), counted([]int{64, 1}), counted([]int{1, 64}), counted([]int{65, 1}), counted([]int{64, 64}), counted([]int{2, 3, 4, 5}), tensor([]int{2}, top, low))
}

func TestWhatIsHandedInStays(t *testing.T) {
	for _, a := range handedIn() {
		la := lay(a)
		for _, b := range handedIn() {
			lb := lay(b)
			matm.Dot(la.t.V, lb.t.V)
			got, _ := matm.Mul(la.t, lb.t)
			spoil(got)
			if !la.stayed() || !lb.stayed() {
				t.Fatalf("P7.1: Dot, Mul of %v and %v: what was handed in, or the room about it, is changed", short(a), short(b))
			}
		}
		matm.All(la.t)
		matm.Mean(la.t)
		got, _ := matm.Flip(la.t)
		spoil(got)
		for side := -1; side <= api.MaxDims; side++ {
			got, _ := matm.Sum(la.t, side)
			spoil(got)
		}
		if !la.stayed() {
			t.Fatalf("P7.1: of %v: what was handed in, or the room about it, is changed", short(a))
		}
	}
}

func TestOneTensorTwice(t *testing.T) {
	a := small(5, []int{7, 7})
	l := lay(a)
	got, err := matm.Mul(l.t, l.t)
	want(t, "Mul of a matrix and itself", got, err, exactMul(a, a))
	spoil(got)
	if !l.stayed() {
		t.Error("P7.1: Mul of a matrix and itself: it is changed")
	}
	if got := matm.Dot(l.t.V, l.t.V[3:]); got != exactDot(a.V, a.V[3:]) || !l.stayed() {
		t.Errorf("P7.1: Dot of a list and a piece of it: %d", got)
	}
}

func TestAnswersAreNewMemory(t *testing.T) {
	a, one, flat := counted([]int{2, 3}), tensor([]int{1, 1}, api.One), counted([]int{2, 1, 3})
	column := counted([]int{3, 1})
	before := fmt.Sprint(a, one, flat, column)
	for i, call := range []func() (api.Tensor, api.Errno){
		func() (api.Tensor, api.Errno) { return matm.Mul(a, column) },
		func() (api.Tensor, api.Errno) { return matm.Mul(column, one) },
		func() (api.Tensor, api.Errno) { return matm.Flip(a) },
		func() (api.Tensor, api.Errno) { return matm.Flip(column) },
		func() (api.Tensor, api.Errno) { return matm.Flip(one) },
		func() (api.Tensor, api.Errno) { return matm.Sum(a, 0) },
		func() (api.Tensor, api.Errno) { return matm.Sum(a, 1) },
		func() (api.Tensor, api.Errno) { return matm.Sum(flat, 1) },
		func() (api.Tensor, api.Errno) { return matm.Sum(column, 1) },
	} {
		first, _ := call()
		told := fmt.Sprint(first)
		second, _ := call()
		spoil(first)
		if fmt.Sprint(second) != told || fmt.Sprint(a, one, flat, column) != before {
			t.Errorf("P7.1: call %d: two answers, or an answer and what was handed in, share memory", i)
		}
	}
}
