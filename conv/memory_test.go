package conv_test

import (
	"fmt"
	"slices"
	"testing"

	"carousel/api"
	"carousel/conv"
)

// laid is a tensor with room about both its lists, as they were.
type laid struct {
	t                 api.Tensor
	dims, dimsBefore  []int
	numbers, vsBefore []api.Fix
}

func lay(t api.Tensor) laid {
	var l laid
	l.dims, l.t.Dims = inRoom(t.Dims)
	l.numbers, l.t.V = inRoom(t.V)
	l.dimsBefore, l.vsBefore = slices.Clone(l.dims), slices.Clone(l.numbers)
	return l
}

func (l laid) stayed() bool {
	return slices.Equal(l.dims, l.dimsBefore) && slices.Equal(l.numbers, l.vsBefore)
}

// handedIn are such as are taken and such as are refused.
func handedIn() []api.Tensor {
	return slices.Concat(noTensors(), otherSides(), []api.Tensor{
		tensor([]int{1, 1}, 5), counted(1, 2), counted(1, 3), counted(2, 3), counted(3, 2), counted(2, 1), counted(64, 64), counted(1, 4096),
		tensor([]int{1, 1, 1}, 5), counted(1, 1, 2), counted(1, 2, 2), counted(2, 1, 2), counted(2, 2, 2), counted(2, 1, 1), counted(64, 64, 1), counted(1, 1, 4096),
	})
}

func TestWhatIsHandedInStays(t *testing.T) {
	for _, a := range handedIn() {
		la := lay(a)
		for _, b := range handedIn() {
			lb := lay(b)
			for _, step := range []int{0, 1, 2, 64} {
				for _, n := range []int{0, 1, 2, 3, 64} {
					in, _ := conv.BackIn(la.t, lb.t, step, n)
					kernel, _ := conv.BackKernel(la.t, lb.t, step, n)
					for _, got := range []api.Tensor{in, kernel} {
						spoil(got.Dims)
						spoil(got.V)
					}
				}
				got, _ := conv.Row(la.t, lb.t, step)
				spoil(got.Dims)
				spoil(got.V)
			}
			if !la.stayed() || !lb.stayed() {
				t.Fatalf("P8.1: of %v and %v: what was handed in, or the room about it, is changed", short(a), short(b))
			}
		}
		for _, wide := range []int{0, 1, 2, 3, 64} {
			got, places, _ := conv.Pool(la.t, wide)
			spoil(got.Dims)
			spoil(got.V)
			spoil(places)
		}
		if !la.stayed() {
			t.Fatalf("P8.2: of %v: what was handed in, or the room about it, is changed", short(a))
		}
	}
}

func TestOneTensorTwice(t *testing.T) {
	g := small(5, 1, 4)
	l := lay(g)
	got, err := conv.BackKernel(l.t, l.t, 1, 1)
	want(t, "BackKernel of a tensor and itself", got, err, exactBackKernel(g, g, 1, 1))
	spoil(got.Dims)
	spoil(got.V)
	if !l.stayed() {
		t.Error("P8.1: BackKernel of a tensor and itself: it is changed")
	}
}

func TestAnswersAreNewMemory(t *testing.T) {
	a, k, g := counted(2, 3), counted(2, 2, 2), counted(2, 2)
	before := fmt.Sprint(a, k, g)
	for i, call := range []func() (api.Tensor, api.Errno){
		func() (api.Tensor, api.Errno) { return conv.Row(a, k, 1) },
		func() (api.Tensor, api.Errno) { return conv.BackIn(g, k, 1, 3) },
		func() (api.Tensor, api.Errno) { return conv.BackKernel(g, a, 1, 2) },
	} {
		first, _ := call()
		told := fmt.Sprint(first)
		second, _ := call()
		spoil(first.Dims)
		spoil(first.V)
		if fmt.Sprint(second) != told || fmt.Sprint(a, k, g) != before {
			t.Errorf("P8.1: call %d: two answers, or an answer and what was handed in, share memory", i)
		}
	}
}

func TestPoolIsNewMemory(t *testing.T) {
	for _, d := range [][3]int{{2, 3, 1}, {2, 3, 2}, {2, 3, 3}, {1, 1, 1}, {1, 2, 1}, {3, 1, 1}} {
		a := counted(d[0], d[1])
		before := fmt.Sprint(a)
		kept, keptPlaces, _ := conv.Pool(a, d[2])
		told, toldPlaces := fmt.Sprint(kept), fmt.Sprint(keptPlaces)
		// Dims and the places are lists of one kind: with either spoilt, the other must stay.
		first, firstPlaces, _ := conv.Pool(a, d[2])
		spoil(first.Dims)
		spoil(first.V)
		second, secondPlaces, _ := conv.Pool(a, d[2])
		spoil(secondPlaces)
		if fmt.Sprint(firstPlaces) != toldPlaces || fmt.Sprint(second) != told {
			t.Errorf("P8.2: Pool of %v, wide %d: its places and its tensor share memory", a, d[2])
		}
		if fmt.Sprint(kept) != told || fmt.Sprint(keptPlaces) != toldPlaces || fmt.Sprint(a) != before {
			t.Errorf("P8.2: Pool of %v, wide %d: two answers, or an answer and what was handed in, share memory", a, d[2])
		}
	}
}
