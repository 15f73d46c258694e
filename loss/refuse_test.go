package loss_test

import (
	"fmt"
	"slices"
	"testing"

	"carousel/api"
	"carousel/tape"
)

func others(t *testing.T) *tape.Tape {
	return laidOut(t, line(whole(1, 2, 3)...), number(one), tensor([]int{1, 3}, whole(1, 2, 3)...), line(one))
}

func TestNoNode(t *testing.T) {
	for _, n := range noNodes(4) {
		for i, f := range []call{square(whole(1, 2, 3)...), square(one), square(), size(whole(1, 2, 3)...), size(one), size(), hinge(0), hinge(2), hinge(-1), hinge(9)} {
			refused(t, fmt.Sprintf("node %d, call %d", n, i), others(t), n, f, api.EARG)
		}
	}
	for _, n := range []int{0, 1, -1} {
		for i, f := range []call{square(one), square(), size(one), size(), hinge(0), hinge(-1)} {
			refused(t, fmt.Sprintf("node %d of an empty tape, call %d", n, i), tape.New(), n, f, api.EARG)
		}
	}
}

func TestHowManyAreWanted(t *testing.T) {
	for _, many := range []int{1, 2, 3, 7, api.MaxSize} {
		for _, off := range []int{-many, -2, -1, 1, 2, 5000} {
			if many+off < 0 {
				continue
			}
			// Spare room is no number.
			want := make([]api.Fix, many+off, many+off+3)
			what := fmt.Sprintf("%d wanted of %d", many+off, many)
			refused(t, what, laidOut(t, number(one), line(make([]api.Fix, many)...)), 1, square(want...), api.EARG)
			refused(t, what, laidOut(t, number(one), line(make([]api.Fix, many)...)), 1, size(want...), api.EARG)
		}
	}
	// One number isn't spread over several, nor several over one.
	refused(t, "one wanted of three", others(t), 0, square(one), api.EARG)
	refused(t, "three wanted of one", others(t), 3, size(whole(1, 2, 3)...), api.EARG)
}

// otherSides are tensors of no side, and of more than one.
func otherSides() []api.Tensor {
	var all []api.Tensor
	for _, d := range [][]int{nil, {1, 1}, {1, 3}, {3, 1}, {2, 3}, {1, 1, 1}, {2, 1, 2}, {1, 1, 1, 4}, {8, 8, 8, 8}} {
		many := 1
		for _, side := range d {
			many *= side
		}
		all = append(all, tensor(d, make([]api.Fix, many)...))
	}
	return all
}

func TestNotOneSide(t *testing.T) {
	for _, x := range otherSides() {
		many := len(x.V)
		for i, f := range []call{square(make([]api.Fix, many)...), size(make([]api.Fix, many)...), hinge(0), hinge(many - 1), hinge(many), hinge(-1)} {
			refused(t, fmt.Sprintf("sides %v, call %d", x.Dims, i), laidOut(t, line(one), x), 1, f, api.ESHAPE)
		}
		// How many are wanted is asked for ahead of the sides.
		for i, f := range []call{square(make([]api.Fix, many+1)...), square(make([]api.Fix, many-1)...), square(), size(make([]api.Fix, many+1)...), size(make([]api.Fix, many-1)...), size()} {
			refused(t, fmt.Sprintf("sides %v, too many or few, call %d", x.Dims, i), laidOut(t, line(one), x), 1, f, api.EARG)
		}
	}
}

func TestNoPlace(t *testing.T) {
	for _, many := range []int{1, 2, 3, 100, api.MaxSize - 1} {
		for _, class := range noPlaces(many) {
			if class >= 0 && class < many {
				continue
			}
			refused(t, fmt.Sprintf("class %d of %d", class, many), laidOut(t, number(one), line(make([]api.Fix, many)...)), 1, hinge(class), api.ESHAPE)
		}
	}
	refused(t, "class 4096 of 4096", laidOut(t, line(make([]api.Fix, api.MaxSize)...)), 0, hinge(api.MaxSize), api.ESHAPE)
}

// A loss' own node is one, but has no side.
func TestLossOfALoss(t *testing.T) {
	for _, c := range allMade() {
		x := laidOut(t, line(c.row...))
		n, _ := c.f(x, 0)
		refused(t, c.what+", and Square of that", x, n, square(one), api.ESHAPE)
		refused(t, c.what+", and Size of that", x, n, size(one), api.ESHAPE)
		refused(t, c.what+", and Hinge of that", x, n, hinge(0), api.ESHAPE)
	}
}

// A loss wants just as much room as it has nodes: with one place less the tape stays as it was.
func TestAFullTape(t *testing.T) {
	for _, c := range allMade() {
		wants := len(c.nodes)
		x := fill(t, laidOut(t, line(c.row...)), wants)
		told(t, c.what+", with just its room", x, 0, c.f, behind(api.MaxOps-wants, 0, c.nodes))
		for room := range wants {
			refused(t, fmt.Sprintf("%s, with room for %d", c.what, room), fill(t, laidOut(t, line(c.row...)), room), 0, c.f, api.ELIMIT)
		}
	}
}

// Behind a loss that the tape had no room for, it takes what it has room for.
func TestAgainBehindAFullTape(t *testing.T) {
	x := fill(t, laidOut(t, line(whole(3)...)), 8)
	refused(t, "Hinge with room for 8", x, 0, hinge(0), api.ELIMIT)
	for _, c := range []made{squares()[0], sizes()[0]} {
		told(t, c.what+" behind a Hinge without room", x, 0, c.f, behind(x.Len(), 0, c.nodes))
	}
	refused(t, "Square of a full tape", x, 0, square(one), api.ELIMIT)
}

// What is wrong with the arguments is told ahead of what is wrong with the tape.
func TestWhichErrorOfAFullTape(t *testing.T) {
	for _, room := range []int{0, 1, 3} {
		x := fill(t, others(t), room)
		for _, n := range noNodes(api.MaxOps - room) {
			for i, f := range []call{square(whole(1, 2, 3)...), square(), size(whole(1, 2, 3)...), size(), hinge(0), hinge(-1)} {
				if n < 0 || n >= x.Len() {
					refused(t, fmt.Sprintf("no node, no room, call %d", i), x, n, f, api.EARG)
				}
			}
		}
		for i, f := range []call{square(), square(one), square(whole(1, 2, 3, 4)...), size(), size(one), size(whole(1, 2, 3, 4)...)} {
			refused(t, fmt.Sprintf("too many or few, no room, call %d", i), x, 0, f, api.EARG)
		}
		for i, f := range []call{square(), square(one), size(), size(one)} {
			refused(t, fmt.Sprintf("too few, two sides, no room, call %d", i), x, 2, f, api.EARG)
		}
		for i, f := range []call{square(whole(1, 2, 3)...), size(whole(1, 2, 3)...), hinge(0), hinge(-1)} {
			refused(t, fmt.Sprintf("two sides, no room, call %d", i), x, 2, f, api.ESHAPE)
		}
		for _, class := range []int{-1, 3, 1 << 32} {
			refused(t, "no place, no room", x, 0, hinge(class), api.ESHAPE)
		}
		for i, f := range []call{square(whole(1, 2, 3)...), size(whole(1, 2, 3)...), hinge(0), hinge(2)} {
			refused(t, fmt.Sprintf("no room, call %d", i), x, 0, f, api.ELIMIT)
		}
	}
}

// A refusal leaves nothing behind that a later call could tell.
func TestBehindRefusals(t *testing.T) {
	for _, c := range allMade() {
		x := laidOut(t, number(one), line(c.row...))
		for _, f := range []call{square(), size(), hinge(-1), hinge(len(c.row)), square(slices.Repeat([]api.Fix{1}, len(c.row)+1)...)} {
			f(x, 1)
			f(x, -1)
			f(x, 2)
		}
		told(t, c.what+" behind refusals", x, 1, c.f, behind(2, 1, c.nodes))
	}
}
