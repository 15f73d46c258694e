package act_test

import (
	"testing"

	"carousel/act"
	"carousel/api"
)

// bent is a number with what a line must make of it, and how steep it must be there.
type bent struct{ x, y, slope api.Fix }

func check(t *testing.T, kind int, b bent) {
	t.Helper()
	y, err := act.Of(kind, b.x)
	if y != b.y || err != api.OK {
		t.Errorf("P9.1: Of(%d, %d): %d, %d, want %d", kind, b.x, y, err, b.y)
	}
	slope, err := act.Slope(kind, b.x)
	if slope != b.slope || err != api.OK {
		t.Errorf("P9.1: Slope(%d, %d): %d, %d, want %d", kind, b.x, slope, err, b.slope)
	}
}

func TestTheChaptersExamples(t *testing.T) {
	if y, err := act.Of(1, -one); y != 0 || err != api.OK {
		t.Errorf("P9.1: Of(1, -One): %d, %d, want 0", y, err)
	}
	if slope, err := act.Slope(2, -one); slope != 536870912 || err != api.OK {
		t.Errorf("P9.1: Slope(2, -One): %d, %d, want One by 8", slope, err)
	}
}

func TestRamp(t *testing.T) {
	for _, b := range []bent{
		{0, 0, 0}, {1, 1, one}, {-1, 0, 0}, {5, 5, one}, {-5, 0, 0}, {one, one, one}, {one - 1, one - 1, one}, {one + 1, one + 1, one},
		{-one, 0, 0}, {-one - 1, 0, 0}, {-one + 1, 0, 0}, {7 * one, 7 * one, one}, {-7 * one, 0, 0}, {top, top, one}, {top - 1, top - 1, one}, {low, 0, 0}, {low + 1, 0, 0},
	} {
		check(t, 1, b)
	}
}

func TestLeak(t *testing.T) {
	for _, b := range []bent{
		{0, 0, eighth}, {1, 1, one}, {2, 2, one}, {4, 4, one}, {12, 12, one}, {one - 1, one - 1, one}, {one, one, one}, {one + 1, one + 1, one}, {top, top, one},
		// Half way between two the even one is taken, below it the nearer one.
		{-1, 0, eighth}, {-3, 0, eighth}, {-4, 0, eighth}, {-5, -1, eighth}, {-8, -1, eighth}, {-11, -1, eighth}, {-12, -2, eighth}, {-13, -2, eighth}, {-16, -2, eighth}, {-20, -2, eighth}, {-21, -3, eighth}, {-28, -4, eighth},
		{-one, -eighth, eighth}, {-one - 1, -eighth, eighth}, {-one + 1, -eighth, eighth}, {-one - 4, -eighth, eighth}, {-one + 4, -eighth, eighth}, {-one - 5, -eighth - 1, eighth}, {-one + 5, -eighth + 1, eighth}, {-one - 12, -eighth - 2, eighth},
		{-8 * one, -one, eighth}, {low, -1 << 60, eighth}, {low + 1, -1 << 60, eighth}, {low + 4, -1 << 60, eighth}, {low + 5, -1<<60 + 1, eighth}, {low + 12, -1<<60 + 2, eighth},
	} {
		check(t, 2, b)
	}
}

func TestHold(t *testing.T) {
	for _, b := range []bent{
		{0, 0, one}, {1, 1, one}, {-1, -1, one}, {5, 5, one}, {-5, -5, one}, {half, half, one}, {-half, -half, one},
		{one - 1, one - 1, one}, {one, one, 0}, {one + 1, one, 0}, {2 * one, one, 0}, {top, one, 0},
		{-one + 1, -one + 1, one}, {-one, -one, 0}, {-one - 1, -one, 0}, {-2 * one, -one, 0}, {low, -one, 0}, {low + 1, -one, 0},
	} {
		check(t, 3, b)
	}
}

func TestSize(t *testing.T) {
	for _, b := range []bent{
		{0, 0, 0}, {1, 1, one}, {-1, 1, -one}, {5, 5, one}, {-5, 5, -one}, {one - 1, one - 1, one}, {one, one, one}, {one + 1, one + 1, one},
		{-one + 1, one - 1, -one}, {-one, one, -one}, {-one - 1, one + 1, -one}, {top, top, one}, {-top, top, -one}, {-top + 1, top - 1, -one},
		// Nothing is as great as the least is small.
		{low, top, -one},
	} {
		check(t, 4, b)
	}
}

func TestStep(t *testing.T) {
	for _, b := range []bent{
		{0, half, half}, {2, half + 1, half}, {-2, half - 1, half}, {half, half + half/2, half}, {-half, half / 2, half},
		// Half way between two the even one is taken, on either side of 0.
		{1, half, half}, {-1, half, half}, {3, half + 2, half}, {-3, half - 2, half}, {5, half + 2, half}, {-5, half - 2, half}, {7, half + 4, half}, {-7, half - 4, half},
		{one - 1, one, half}, {one - 2, one - 1, half}, {one - 3, one - 2, half}, {one - 4, one - 2, half}, {one, one, 0}, {one + 1, one, 0}, {one + 2, one, 0}, {one + 3, one, 0}, {2 * one, one, 0}, {top, one, 0}, {top - 1, one, 0},
		{-one + 1, 0, half}, {-one + 2, 1, half}, {-one + 3, 2, half}, {-one + 4, 2, half}, {-one, 0, 0}, {-one - 1, 0, 0}, {-one - 2, 0, 0}, {-one - 3, 0, 0}, {-2 * one, 0, 0}, {low, 0, 0}, {low + 1, 0, 0},
	} {
		check(t, 5, b)
	}
}

func TestAllNumbers(t *testing.T) {
	for _, kind := range kinds() {
		for _, x := range append(edges(), strewn(1, 20000)...) {
			check(t, kind, bent{x, exactOf(kind, x), exactSlope(kind, x)})
		}
	}
}

// Where nothing is rounded, and no bend lies between, the slope is by how much the line goes up.
func TestSlopesOfTheLines(t *testing.T) {
	for _, kind := range kinds() {
		for _, x := range []api.Fix{-3 * one, -one - 16, -one, -one + 16, -half, -16, 0, 16, half, one - 16, one, one + 16, 3 * one} {
			from, _ := act.Of(kind, x)
			to, _ := act.Of(kind, x+16)
			slope, _ := act.Slope(kind, x+1)
			if to-from != 16*slope/one {
				t.Errorf("P9.1: kind %d: from %d on it goes up by %d in 16, but its slope is %d", kind, x, to-from, slope)
			}
		}
	}
}

func TestOtherKinds(t *testing.T) {
	for _, kind := range noKinds() {
		for _, x := range []api.Fix{0, 1, -1, 5, one, -one, top, low} {
			if y, err := act.Of(kind, x); y != 0 || err != api.EARG {
				t.Errorf("P9.1: Of(%d, %d): %d, %d, want 0, EARG", kind, x, y, err)
			}
			if slope, err := act.Slope(kind, x); slope != 0 || err != api.EARG {
				t.Errorf("P9.1: Slope(%d, %d): %d, %d, want 0, EARG", kind, x, slope, err)
			}
		}
	}
}
