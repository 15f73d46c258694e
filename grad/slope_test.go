package grad_test

import (
	"math/rand"
	"slices"
	"testing"

	"carousel/api"
	"carousel/grad"
	"carousel/model"
)

// halves has small numbers, each a half away from a whole one: there few lines bend.
func halves(r *rand.Rand, many int) []api.Fix {
	v := make([]api.Fix, many)
	for i := range v {
		v[i] = api.Fix(r.Intn(5)-2)*one + half
	}
	return v
}

// lossWith tells the loss, if one parameter were so much greater.
func lossWith(t *testing.T, n model.Net, kind int, p []api.Fix, e grad.Example, at int, more api.Fix) api.Fix {
	t.Helper()
	moved := slices.Clone(p)
	moved[at] += more
	_, far, err := grad.Of(n, kind, moved, e)
	if err != api.OK {
		t.Fatalf("P14.1: Of: %d", err)
	}
	return far
}

// In each single parameter a loss is a line or a square between bends: where nothing is rounded, the
// slope between two numbers as far on either side is just that parameter's gradient.
func TestExactSlopes(t *testing.T) {
	r := rand.New(rand.NewSource(4))
	const more = one / 64
	bent, tried := 0, 0
	for _, text := range []string{
		"in 3 dense 2", "in 2 3 dense 4", "in 2 dense 3 dense 2", "in 2 dense 4 bend 1 dense 2", "in 2 dense 3 bend 2 dense 1", "in 2 dense 2 bend 3 dense 4",
		"in 2 dense 3 bend 4 dense 2", "in 2 dense 3 bend 5 dense 2", "in 2 dense 2 skip dense 2 skip", "in 1 4 conv 2 2 dense 2", "in 2 5 conv 2 2 pool 2 dense 2",
		"in 1 5 conv 2 2 conv 1 2 dense 2", "in 1 4 conv 1 1 skip pool 2 dense 1", "in 2 6 conv 2 3 bend 2 skip pool 2 dense 2 bend 4",
	} {
		n := net(t, text)
		many, _ := model.Params(n)
		shapes, _ := model.Shapes(n)
		wanted := sizeOf(shapes[len(shapes)-1])
		for range 6 {
			p := halves(r, many)
			e := grad.Example{X: halves(r, sizeOf(n.In)), Y: halves(r, wanted), Class: r.Intn(wanted)}
			for i := range e.Y {
				e.Y[i] += one / 4
			}
			for _, kind := range kinds() {
				row, middle, err := grad.Of(n, kind, p, e)
				if err != api.OK || len(row) != many {
					t.Fatalf("P14.1: Of %q: %d numbers, %d", text, len(row), err)
				}
				for at, g := range row {
					tried++
					by := func(times api.Fix) api.Fix { return lossWith(t, n, kind, p, e, at, times*more) }
					up, down := by(1), by(-1)
					// A line that bends here, or a greatest number that changes, is no line at all.
					if by(2)-2*up+middle != up-2*middle+down || up-2*middle+down != middle-2*down+by(-2) {
						bent++
						continue
					}
					if slope := (up - down) * (one / more) / 2; slope != g {
						t.Errorf("T2, P14.1: %q, kind %d, parameter %d: %d, want %d", text, kind, at, g, slope)
					}
				}
			}
		}
	}
	if bent > tried/4 {
		t.Errorf("%d parameters of %d stand where a line bends", bent, tried)
	}
}
