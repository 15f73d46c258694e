package act_test

import (
	"fmt"
	"testing"

	"carousel/act"
	"carousel/api"
)

func TestAll(t *testing.T) {
	a := tensor([]int{2, 3}, -2*one, -12, 0, 3, one, top)
	for kind, v := range [][]api.Fix{
		1: {0, 0, 0, 3, one, top},
		2: {-2 * eighth, -2, 0, 3, one, top},
		3: {-one, -12, 0, 3, one, one},
		4: {2 * one, 12, 0, 3, one, top},
		5: {0, half - 6, half, half + 2, one, one},
	} {
		if kind == 0 {
			continue
		}
		got, err := act.All(kind, a)
		want(t, fmt.Sprintf("All(%d, %v)", kind, a), got, err, tensor([]int{2, 3}, v...))
	}
}

func TestBack(t *testing.T) {
	a := tensor([]int{2, 3}, -2*one, -12, 0, 3, one, top)
	g := tensor([]int{2, 3}, 16, 12, -4, 3, -5, 7*one)
	for kind, v := range [][]api.Fix{
		1: {0, 0, 0, 3, -5, 7 * one},
		2: {2, 2, 0, 3, -5, 7 * one},
		3: {0, 12, -4, 3, 0, 0},
		4: {-16, -12, 0, 3, -5, 7 * one},
		5: {0, 6, -2, 2, 0, 0},
	} {
		if kind == 0 {
			continue
		}
		got, err := act.Back(kind, a, g)
		want(t, fmt.Sprintf("Back(%d, %v, %v)", kind, a, g), got, err, tensor([]int{2, 3}, v...))
	}
}

// By a slope of less than one the product is rounded, half way to the even one; by -1 it may be held.
func TestBackRoundsAndHolds(t *testing.T) {
	for _, c := range []struct {
		kind       int
		x, g, want api.Fix
	}{
		{2, -1, 4, 0}, {2, -1, 12, 2}, {2, -1, 20, 2}, {2, -1, 5, 1}, {2, -1, 11, 1}, {2, -1, -4, 0}, {2, -1, -12, -2}, {2, -1, -20, -2}, {2, -1, -5, -1}, {2, 0, 12, 2}, {2, low, -28, -4},
		{2, -1, top, 1 << 60}, {2, -1, low, -1 << 60},
		{5, 0, 1, 0}, {5, 0, 3, 2}, {5, 0, 5, 2}, {5, 0, -1, 0}, {5, 0, -3, -2}, {5, 0, -5, -2}, {5, 0, top, 1 << 62}, {5, 0, low, -1 << 62},
		{4, -1, low, top}, {4, -1, low + 1, top}, {4, -1, top, low + 1}, {4, low, low, top}, {4, 1, low, low}, {4, 0, low, 0}, {1, 1, low, low}, {1, 1, top, top}, {1, 0, top, 0}, {3, one, top, 0}, {3, -one, low, 0}, {3, one - 1, low, low}, {3, -one + 1, top, top},
	} {
		got, err := act.Back(c.kind, tensor([]int{1}, c.x), tensor([]int{1}, c.g))
		want(t, fmt.Sprintf("Back(%d, %d, %d)", c.kind, c.x, c.g), got, err, tensor([]int{1}, c.want))
	}
}

func TestShapesAreKept(t *testing.T) {
	for i, d := range someShapes() {
		a, g := filled(int64(i), d...), filled(int64(1000+i), d...)
		for _, kind := range kinds() {
			bends, slopes := tensor(d), tensor(d)
			for i, x := range a.V {
				bends.V = append(bends.V, exactOf(kind, x))
				slopes.V = append(slopes.V, exactMul(g.V[i], exactSlope(kind, x)))
			}
			got, err := act.All(kind, a)
			want(t, fmt.Sprintf("All(%d) of shape %v", kind, d), got, err, bends)
			got, err = act.Back(kind, a, g)
			want(t, fmt.Sprintf("Back(%d) of shape %v", kind, d), got, err, slopes)
		}
	}
}

func TestOneNumber(t *testing.T) {
	for _, d := range [][]int{nil, {}, {1}, {1, 1}, {1, 1, 1, 1}} {
		got, err := act.All(1, tensor(d, 5))
		want(t, fmt.Sprintf("All(1) of 5, of shape %v", d), got, err, tensor(d, 5))
		got, err = act.All(4, tensor(d, low))
		want(t, fmt.Sprintf("All(4) of the least, of shape %v", d), got, err, tensor(d, top))
		got, err = act.Back(2, tensor(d, -5), tensor(d, 16))
		want(t, fmt.Sprintf("Back(2) of -5 and 16, of shape %v", d), got, err, tensor(d, 2))
	}
	// A list that is not there is an empty one.
	got, err := act.Back(2, tensor(nil, -5), tensor([]int{}, 16))
	want(t, "Back(2) of no sides and none", got, err, tensor(nil, 2))
	got, err = act.Back(2, tensor([]int{}, -5), tensor(nil, 16))
	want(t, "Back(2) of no sides and none", got, err, tensor(nil, 2))
}

// What would be spread elsewhere is not spread here.
func TestUnlikeShapes(t *testing.T) {
	for i, d := range someShapes() {
		for j, other := range someShapes() {
			if fmt.Sprint(d) == fmt.Sprint(other) {
				continue
			}
			for _, kind := range kinds() {
				got, err := act.Back(kind, filled(int64(i), d...), filled(int64(j), other...))
				refused(t, fmt.Sprintf("Back(%d) of shapes %v and %v", kind, d, other), got, err, api.ESHAPE)
			}
		}
	}
}

func TestNoTensors(t *testing.T) {
	good := []api.Tensor{tensor(nil, 5), tensor([]int{1}, 5), tensor([]int{3}, 1, 2, 3), filled(1, 2, 3), filled(2, 4096)}
	for _, bad := range noTensors() {
		for _, kind := range kinds() {
			got, err := act.All(kind, bad)
			refused(t, fmt.Sprintf("All(%d, %v)", kind, short(bad)), got, err, api.EARG)
			got, err = act.Back(kind, bad, bad)
			refused(t, fmt.Sprintf("Back(%d, %v) twice", kind, short(bad)), got, err, api.EARG)
			// Most of these are of unlike shapes too: that is asked last.
			for _, a := range good {
				got, err = act.Back(kind, bad, a)
				refused(t, fmt.Sprintf("Back(%d, %v, %v)", kind, short(bad), short(a)), got, err, api.EARG)
				got, err = act.Back(kind, a, bad)
				refused(t, fmt.Sprintf("Back(%d, %v, %v)", kind, short(a), short(bad)), got, err, api.EARG)
			}
		}
	}
}

func TestTensorsOfOtherKinds(t *testing.T) {
	for _, kind := range noKinds() {
		for _, a := range append(noTensors(), tensor(nil, 5), tensor([]int{3}, 1, 2, 3), tensor([]int{1, 3}, 1, 2, 3), filled(1, 4096)) {
			got, err := act.All(kind, a)
			refused(t, fmt.Sprintf("All(%d, %v)", kind, short(a)), got, err, api.EARG)
			for _, g := range []api.Tensor{a, {}, tensor([]int{3}, 1), tensor([]int{3}, 1, 2, 3)} {
				got, err = act.Back(kind, a, g)
				refused(t, fmt.Sprintf("Back(%d, %v, %v)", kind, short(a), short(g)), got, err, api.EARG)
			}
		}
	}
}
