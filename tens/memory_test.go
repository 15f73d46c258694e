package tens_test

import (
	"fmt"
	"slices"
	"testing"

	"carousel/api"
	"carousel/tens"
)

// laid is a tensor with room about both its lists, as they were.
type laid struct {
	t                 api.Tensor
	dims, dimsBefore  []int
	numbers, vsBefore []api.Fix
}

func lay(t api.Tensor) laid {
	var l laid
	l.dims, l.t.Dims = inRoom(t.Dims)
	l.numbers, l.t.V = inRoom(t.V)
	l.dimsBefore, l.vsBefore = slices.Clone(l.dims), slices.Clone(l.numbers)
	return l
}

func (l laid) stayed() bool {
	return slices.Equal(l.dims, l.dimsBefore) && slices.Equal(l.numbers, l.vsBefore)
}

// handedIn are such as are taken and such as are refused.
func handedIn() []api.Tensor {
	return append(noTensors(),
		tensor(nil, 5), tensor([]int{1}, 5), counted([]int{3}), counted([]int{2, 3}), counted([]int{2, 1}), counted([]int{2, 3, 4}),
		counted([]int{4096}), counted([]int{64, 1}), counted([]int{65}), counted([]int{2, 3, 4, 5}), tensor([]int{2}, api.Top, api.Low))
}

func TestWhatIsHandedInStays(t *testing.T) {
	for _, a := range handedIn() {
		for _, b := range handedIn() {
			la, lb := lay(a), lay(b)
			for _, c := range pairCalls() {
				got, _ := c.call(la.t, lb.t)
				spoil(got)
			}
			tens.Same(la.t, lb.t)
			if !la.stayed() || !lb.stayed() {
				t.Fatalf("P6.1: of %v and %v: what was handed in, or the room about it, is changed", short(a), short(b))
			}
		}
	}
}

func TestWhatIsHandedInStaysBesideAList(t *testing.T) {
	all := slices.Concat(noShapes(), orders(2), orders(3), [][]int{nil, {0}, {1}, {3}, {6}, {3, 2}, {2, 3}, {2, 1}, {1, 3}, {24}, {4096}, {64, 64}})
	for _, a := range handedIn() {
		for _, d := range all {
			la := lay(a)
			room, part := inRoom(d)
			before := slices.Clone(room)
			for _, call := range []func() (api.Tensor, api.Errno){
				func() (api.Tensor, api.Errno) { return tens.New(part, 3) },
				func() (api.Tensor, api.Errno) { return tens.Scale(la.t, api.One) },
				func() (api.Tensor, api.Errno) { return tens.Reshape(la.t, part) },
				func() (api.Tensor, api.Errno) { return tens.Turn(la.t, part) },
				func() (api.Tensor, api.Errno) { return tens.Fold(la.t, part) },
				func() (api.Tensor, api.Errno) { return tens.Reshape(la.t, la.t.Dims) },
				func() (api.Tensor, api.Errno) { return tens.Fold(la.t, la.t.Dims) },
			} {
				got, _ := call()
				spoil(got)
			}
			tens.Good(la.t)
			if !la.stayed() || !slices.Equal(room, before) {
				t.Fatalf("P6.1: of %v and %v: what was handed in, or the room about it, is changed", short(a), d)
			}
		}
	}
}

func TestAnswersAreNewMemory(t *testing.T) {
	a, one := counted([]int{2, 3}), tensor(nil, 0)
	for i, call := range []func() (api.Tensor, api.Errno){
		func() (api.Tensor, api.Errno) { return tens.New([]int{2, 3}, 7) },
		func() (api.Tensor, api.Errno) { return tens.Add(a, one) },
		func() (api.Tensor, api.Errno) { return tens.Sub(a, a) },
		func() (api.Tensor, api.Errno) { return tens.Mul(a, one) },
		func() (api.Tensor, api.Errno) { return tens.Scale(a, api.One) },
		func() (api.Tensor, api.Errno) { return tens.Reshape(a, []int{2, 3}) },
		func() (api.Tensor, api.Errno) { return tens.Turn(a, []int{0, 1}) },
		func() (api.Tensor, api.Errno) { return tens.Fold(a, []int{2, 3}) },
	} {
		first, _ := call()
		before := fmt.Sprint(first)
		second, _ := call()
		spoil(first)
		if fmt.Sprint(second) != before || !alike(a, counted([]int{2, 3})) || !alike(one, tensor(nil, 0)) {
			t.Errorf("P6.1: call %d: two answers, or an answer and what was handed in, share memory", i)
		}
	}
}
