package loss_test

import (
	"slices"
	"testing"

	"carousel/api"
	"carousel/loss"
	"carousel/tape"
)

// byWant are the calls that take a list.
func byWant() []func(*tape.Tape, int, []api.Fix) (int, api.Errno) {
	return []func(*tape.Tape, int, []api.Fix) (int, api.Errno){loss.Square, loss.Size}
}

// inRoom lays a list in a wider one, so that there is room ahead of it and spare room behind it.
func inRoom(list []api.Fix) (room, part []api.Fix) {
	room = slices.Concat([]api.Fix{9, 9}, list, []api.Fix{9, 9, 9, 9, 9})
	return room, room[2 : 2+len(list)]
}

// spoil writes over a list, its spare room included.
func spoil[T int | api.Fix](list []T) {
	for i := range list[:cap(list)] {
		list[:cap(list)][i] = 99
	}
}

func TestWantStaysAsItWas(t *testing.T) {
	for i, f := range byWant() {
		for _, want := range [][]api.Fix{whole(4, 2, -3), whole(4, 2), whole(4, 2, 1, 1), {}, {top, low, 0}} {
			room, part := inRoom(want)
			was := slices.Clone(room)
			x := laidOut(t, line(whole(1, 2, 3)...), tensor([]int{3, 1}, 1, 2, 3))
			f(x, 0, part)
			f(x, 1, part)
			f(x, 7, part)
			f(fill(t, x, 2), 0, part)
			for n := range x.Len() {
				node, _ := x.At(n)
				spoil(node.T.V)
			}
			if !slices.Equal(room, was) {
				t.Errorf("P13.1: call %d: want %v, or the room about it, is changed", i, want)
			}
		}
	}
}

func TestWantIsNotKept(t *testing.T) {
	for i, f := range byWant() {
		want := whole(4, 2, -3)
		x := laidOut(t, line(whole(1, 2, -5)...))
		f(x, 0, want)
		was := nodesOf(x)
		spoil(want)
		holds(t, "want changed behind the call", x, was)
		if v, _ := x.Value(1); !alike(v, line(whole(4, 2, -3)...)) {
			t.Errorf("P13.1: call %d: the Leaf of want is %v", i, v)
		}
	}
}

// One list may be wanted twice, and be what the tape has told.
func TestOneListTwice(t *testing.T) {
	for i, f := range byWant() {
		x := laidOut(t, line(whole(1, 2, -5)...))
		row, _ := x.Value(0)
		for range 2 {
			n, err := f(x, 0, row.V)
			if v, _ := x.Value(n); err != api.OK || !alike(v, number(0)) {
				t.Errorf("P13.1: call %d of the row itself: %v, %d, want 0", i, v, err)
			}
		}
	}
}

// No two nodes share memory with one another, nor do the nodes of two calls.
func TestNodesAreApart(t *testing.T) {
	for _, c := range allMade() {
		x := laidOut(t, line(c.row...))
		c.f(x, 0)
		was := nodesOf(x)
		for n := range x.Len() {
			node, _ := x.At(n)
			spoil(node.T.V)
			spoil(node.T.Dims)
		}
		holds(t, c.what+", what was told of it changed", x, was)
		told(t, c.what+" again", x, 0, c.f, behind(x.Len(), 0, c.nodes))
	}
}
