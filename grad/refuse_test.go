package grad_test

import (
	"fmt"
	"slices"
	"testing"

	"carousel/api"
	"carousel/grad"
	"carousel/model"
)

// wrongNet is one that Shapes refuses.
type wrongNet struct {
	what string
	n    model.Net
	err  api.Errno
}

func wrongNets() []wrongNet {
	return []wrongNet{
		{"no net", model.Net{}, api.EARG},
		{"nothing in", row(0), api.EARG},
		{"too wide a row in", row(1025), api.EARG},
		{"rows of none", rows(2, 0), api.EARG},
		{"no kind of layer", row(2, layer{Kind: "what"}), api.EARG},
		{"no kind of bent line", row(2, bend(6)), api.EARG},
		{"a skip with a number", row(2, bend(1), layer{Kind: "skip", A: 1}), api.EARG},
		{"a skip ahead of all", row(2, skip()), api.ESHAPE},
		{"a skip of unlike shapes", row(2, dense(3), skip()), api.ESHAPE},
		{"windows over a row", row(2, conv(1, 1)), api.ESHAPE},
		{"windows wider than the rows", rows(2, 3, conv(1, 4)), api.ESHAPE},
		{"a pool wider than the rows", rows(2, 3, pool(4)), api.ESHAPE},
		{"too many parameters", row(1024, dense(4)), api.ELIMIT},
		{"too many layers", row(2, slices.Repeat([]layer{bend(1)}, 17)...), api.ELIMIT},
	}
}

// good is an example of each kind that "in 2 dense 3" takes.
func good(kind int) grad.Example {
	if kind == hinge {
		return ofClass(whole(7, 8), 1)
	}
	return toward(whole(7, 8), whole(1, 2, 3))
}

func kinds() []int { return []int{square, size, hinge} }

func TestNoKind(t *testing.T) {
	n, p := net(t, "in 2 dense 3"), make([]api.Fix, 9)
	for _, kind := range noKinds() {
		for _, e := range []grad.Example{good(square), good(hinge), {}, ofClass(whole(7, 8), 9)} {
			refuses(t, fmt.Sprintf("kind %d", kind), n, kind, p, e, api.EARG)
		}
		refuses(t, fmt.Sprintf("kind %d without parameters", kind), net(t, "in 2"), kind, nil, toward(whole(1, 2), whole(1, 2)), api.EARG)
		// It is told ahead of a net's own error.
		for _, w := range wrongNets() {
			refuses(t, fmt.Sprintf("kind %d, %s", kind, w.what), w.n, kind, p, good(square), api.EARG)
		}
	}
}

func TestNoNet(t *testing.T) {
	for _, w := range wrongNets() {
		for _, kind := range kinds() {
			for _, e := range []grad.Example{good(kind), {}, {Class: -1}, ofClass(whole(1), 5)} {
				for _, p := range [][]api.Fix{nil, {1}, make([]api.Fix, 9)} {
					refuses(t, w.what, w.n, kind, p, e, w.err)
				}
			}
		}
	}
}

func TestHowManyNumbers(t *testing.T) {
	for _, c := range allMade() {
		n := net(t, c.text)
		for _, off := range []int{-2, -1, 1, 2, 100, 5000} {
			what := fmt.Sprintf("%s, %d more", c.what(), off)
			if many := len(c.p) + off; many >= 0 {
				// Spare room is no number.
				refuses(t, what+" parameters", n, c.kind, make([]api.Fix, many, many+3), c.e, api.EARG)
			}
			if many := len(c.e.X) + off; many >= 0 {
				e := c.e
				e.X = make([]api.Fix, many, many+3)
				refuses(t, what+" in", n, c.kind, c.p, e, api.EARG)
			}
			if many := len(c.e.Y) + off; many >= 0 && c.kind != hinge {
				e := c.e
				e.Y = make([]api.Fix, many, many+3)
				refuses(t, what+" wanted", n, c.kind, c.p, e, api.EARG)
			}
		}
		// As many in all, but not where they belong.
		e := c.e
		e.X = e.X[1:]
		refuses(t, c.what()+", one moved", n, c.kind, append(slices.Clone(c.p), 1), e, api.EARG)
	}
}

func TestNoClass(t *testing.T) {
	for text, many := range map[string]int{"in 1 dense 1": 1, "in 1 dense 2": 2, "in 1 dense 256": 256} {
		p := make([]api.Fix, 2*many)
		for _, class := range noPlaces(many) {
			if class < 0 || class >= many {
				refuses(t, fmt.Sprintf("%q, class %d", text, class), net(t, text), hinge, p, ofClass(whole(1), class), api.ESHAPE)
			}
		}
	}
}

// What comes out has two sides, so that no loss fits; but how many are wanted is asked for ahead.
func TestTwoSides(t *testing.T) {
	for text, many := range map[string]int{"in 1 1": 0, "in 1 2 bend 1": 0, "in 2 2 pool 1": 0, "in 2 2 conv 1 2": 4} {
		n, p := net(t, text), make([]api.Fix, many)
		shapes, _ := model.Shapes(n)
		x, y := make([]api.Fix, sizeOf(n.In)), make([]api.Fix, sizeOf(shapes[len(shapes)-1]))
		for _, kind := range []int{square, size} {
			refuses(t, fmt.Sprintf("%q, kind %d", text, kind), n, kind, p, toward(x, y), api.ESHAPE)
			refuses(t, fmt.Sprintf("%q, kind %d, one less wanted", text, kind), n, kind, p, toward(x, y[1:]), api.EARG)
			refuses(t, fmt.Sprintf("%q, kind %d, one more wanted", text, kind), n, kind, p, toward(x, append(y, 0)), api.EARG)
		}
		for _, class := range append(noPlaces(len(y)), 0) {
			refuses(t, fmt.Sprintf("%q, class %d", text, class), n, hinge, p, ofClass(x, class), api.ESHAPE)
		}
	}
}

// Run's errors are told ahead of the loss', whatever the loss would tell.
func TestWhichError(t *testing.T) {
	n, p := net(t, "in 2 dense 3"), make([]api.Fix, 9)
	for _, class := range noPlaces(3) {
		refuses(t, "one in, no class", n, hinge, p, ofClass(whole(1), class), api.EARG)
		refuses(t, "three in, no class", n, hinge, p, ofClass(whole(1, 2, 3), class), api.EARG)
		refuses(t, "a parameter less, no class", n, hinge, p[1:], ofClass(whole(1, 2), class), api.EARG)
		refuses(t, "a parameter more, no class", n, hinge, append(p, 0), ofClass(whole(1, 2), class), api.EARG)
		for _, kind := range noKinds() {
			refuses(t, "no kind, no class", n, kind, p, ofClass(whole(1, 2), class), api.EARG)
		}
	}
	sides := net(t, "in 1 2 bend 1")
	for _, kind := range kinds() {
		refuses(t, "two sides, one in", sides, kind, nil, toward(whole(1), whole(1, 2)), api.EARG)
		refuses(t, "two sides, a parameter", sides, kind, whole(1), toward(whole(1, 2), whole(1, 2)), api.EARG)
	}
}
