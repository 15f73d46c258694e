package act_test

import (
	"fmt"
	"slices"
	"testing"

	"carousel/act"
	"carousel/api"
)

// laid is a tensor with room about both its lists, as they were.
type laid struct {
	t                 api.Tensor
	dims, dimsBefore  []int
	numbers, vsBefore []api.Fix
}

func lay(t api.Tensor) laid {
	var l laid
	l.dims, l.t.Dims = inRoom(t.Dims)
	l.numbers, l.t.V = inRoom(t.V)
	l.dimsBefore, l.vsBefore = slices.Clone(l.dims), slices.Clone(l.numbers)
	return l
}

func (l laid) stayed() bool {
	return slices.Equal(l.dims, l.dimsBefore) && slices.Equal(l.numbers, l.vsBefore)
}

// handedIn are such as are taken and such as are refused.
func handedIn() []api.Tensor {
	return append(noTensors(), tensor(nil, 5), tensor([]int{1}, low), tensor([]int{3}, -5, 0, 5), tensor([]int{3}, one, -one, top), tensor([]int{1, 3}, 1, 2, 3), filled(1, 2, 3), filled(2, 3, 2), filled(3, 2, 3, 4, 5), filled(4, 4096))
}

func TestWhatIsHandedInStays(t *testing.T) {
	for _, a := range handedIn() {
		la := lay(a)
		for _, kind := range []int{0, 1, 2, 3, 4, 5, 6} {
			got, _ := act.All(kind, la.t)
			spoil(got.Dims)
			spoil(got.V)
			for _, g := range handedIn() {
				lg := lay(g)
				got, _ := act.Back(kind, la.t, lg.t)
				spoil(got.Dims)
				spoil(got.V)
				if !lg.stayed() {
					t.Fatalf("P9.1: Back(%d, %v, %v): the gradient, or the room about it, is changed", kind, short(a), short(g))
				}
			}
			if !la.stayed() {
				t.Fatalf("P9.1: kind %d of %v: it, or the room about it, is changed", kind, short(a))
			}
		}
	}
}

func TestOneTensorTwice(t *testing.T) {
	for _, kind := range kinds() {
		a := filled(7, 2, 3)
		l := lay(a)
		wanted := tensor(a.Dims)
		for _, x := range a.V {
			wanted.V = append(wanted.V, exactMul(x, exactSlope(kind, x)))
		}
		got, err := act.Back(kind, l.t, l.t)
		want(t, fmt.Sprintf("Back(%d) of a tensor and itself", kind), got, err, wanted)
		spoil(got.Dims)
		spoil(got.V)
		if !l.stayed() {
			t.Errorf("P9.1: Back(%d) of a tensor and itself: it is changed", kind)
		}
	}
}

func TestAnswersAreNewMemory(t *testing.T) {
	for _, kind := range kinds() {
		for _, d := range [][]int{nil, {1}, {3}, {2, 3}} {
			a, g := filled(1, d...), filled(2, d...)
			before := fmt.Sprint(a, g)
			for i, call := range []func() (api.Tensor, api.Errno){
				func() (api.Tensor, api.Errno) { return act.All(kind, a) },
				func() (api.Tensor, api.Errno) { return act.Back(kind, a, g) },
			} {
				first, _ := call()
				told := fmt.Sprint(first)
				second, _ := call()
				spoil(first.Dims)
				spoil(first.V)
				if fmt.Sprint(second) != told || fmt.Sprint(a, g) != before {
					t.Errorf("P9.1: kind %d, call %d of shape %v: two answers, or an answer and what was handed in, share memory", kind, i, d)
				}
			}
		}
	}
}
