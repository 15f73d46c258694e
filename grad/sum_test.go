package grad_test

import (
	"fmt"
	"math"
	"math/big"
	"slices"
	"testing"

	"carousel/api"
	"carousel/grad"
)

// The chapter's example: noughts, as many as there are parameters.
func TestSumOfNone(t *testing.T) {
	for text, many := range map[string]int{
		"in 2 dense 1": 3, "in 1 dense 1": 2, "in 2": 0, "in 2 2": 0, "in 2 bend 1": 0, "in 2 2 conv 3 2": 12, "in 1 3 conv 1 2 pool 2 dense 1": 4, "in 15 dense 256": 4096,
	} {
		n := net(t, text)
		for _, kind := range kinds() {
			for _, l := range [][]grad.Example{nil, {}, make([]grad.Example, 2)[:0]} {
				sums(t, fmt.Sprintf("of none, %q", text), n, kind, make([]api.Fix, many), l, make([]api.Wide, many), api.Wide{})
			}
		}
	}
}

// Where there is no example, nothing is asked but the net.
func TestSumOfNoneAsksTheNetAlone(t *testing.T) {
	n := net(t, "in 2 dense 1")
	for _, kind := range append(noKinds(), square) {
		for _, many := range []int{0, 2, 3, 4, 5000} {
			sums(t, fmt.Sprintf("of none, kind %d, %d parameters", kind, many), n, kind, make([]api.Fix, many), nil, make([]api.Wide, 3), api.Wide{})
		}
		for _, w := range wrongNets() {
			sumsNothing(t, "of none, "+w.what, w.n, kind, nil, nil, w.err)
		}
	}
}

func TestSumOfAlikeOnes(t *testing.T) {
	for _, c := range allMade() {
		n := net(t, c.text)
		for _, many := range []int64{1, 2, 3, 17, api.MaxData, api.MaxData + 1} {
			l := make([]grad.Example, many)
			for i := range l {
				l[i] = c.e
			}
			sums(t, fmt.Sprintf("%d times %s", many, c.what()), n, c.kind, c.p, l, wides(many, c.row...), wides(many, c.far)[0])
		}
	}
}

func TestSumOfSeveral(t *testing.T) {
	line := net(t, "in 1 dense 1")
	p := whole(2, 1)
	l := []grad.Example{toward(whole(3), whole(5)), toward(whole(1), whole(3)), toward(whole(-1), whole(0)), toward(whole(10), whole(20))}
	// 7, 3, -1, 21 come out: off by 2, 0, -1, 1.
	sums(t, "of four squares", line, square, p, l, wides(1, whole(34, 4)...), wides(1, 6*one)[0])
	sums(t, "of four sizes", line, size, p, l, wides(1, whole(14, 1)...), wides(1, 4*one)[0])
	three := net(t, "in 2 dense 3")
	q := whole(1, 0, 0, 1, 1, 1, 0, 0, 0)
	c := []grad.Example{ofClass(whole(2, 3), 1), ofClass(whole(2, 3), 0), ofClass(whole(1, 1), 2)}
	// 2, 3, 5 and 1, 1, 2 come out: 3 too near; 2 and 4; none.
	sums(t, "of three hinges", three, hinge, q, c, wides(1, whole(-4, -6, 0, 0, 4, 6, -2, 0, 2)...), wides(1, 9*one)[0])
}

// Each example is reckoned and rounded by itself: their sum is no example's.
func TestSumIsOfRoundedOnes(t *testing.T) {
	three := net(t, "in 1 dense 3")
	e := toward(whole(1), whole(-1, 0, 0))
	sums(t, "of thirds", three, size, make([]api.Fix, 6), []grad.Example{e, e, e}, wides(3, 1431655765, 0, 0, 1431655765, 0, 0), wides(3, 1431655765)[0])
}

// Sums beyond a Fix, both ways: neither held nor turned round.
func TestSumBeyondAFix(t *testing.T) {
	line := net(t, "in 1 dense 1")
	up, down := toward([]api.Fix{top}, []api.Fix{low}), toward([]api.Fix{low}, []api.Fix{low})
	p := []api.Fix{0, 0}
	for _, many := range []int64{2, 3, 40} {
		var ups, downs, both []grad.Example
		for range many {
			ups, downs, both = append(ups, up), append(downs, down), append(both, up, down)
		}
		sums(t, fmt.Sprintf("of %d at the top", many), line, size, p, ups, wides(many, top, one), wides(many, top)[0])
		sums(t, fmt.Sprintf("of %d at the least", many), line, size, p, downs, wides(many, low, one), wides(many, top)[0])
		sums(t, fmt.Sprintf("of %d of both", many), line, size, p, both, wides(many, -1, 2*one), wides(2*many, top)[0])
	}
}

// The first example that is wrong tells its error, whatever is behind it, and however many are good.
func TestTheFirstError(t *testing.T) {
	n, p := net(t, "in 2 dense 3"), make([]api.Fix, 9)
	fine, noClass, oneIn := ofClass(whole(7, 8), 1), ofClass(whole(7, 8), 3), ofClass(whole(7), 1)
	for _, c := range []struct {
		l   []grad.Example
		err api.Errno
	}{
		{[]grad.Example{noClass, oneIn}, api.ESHAPE}, {[]grad.Example{oneIn, noClass}, api.EARG},
		{[]grad.Example{fine, noClass, oneIn}, api.ESHAPE}, {[]grad.Example{fine, oneIn, noClass}, api.EARG},
		{[]grad.Example{fine, noClass}, api.ESHAPE}, {[]grad.Example{fine, fine, fine, oneIn}, api.EARG},
		{[]grad.Example{noClass, fine, fine}, api.ESHAPE}, {[]grad.Example{oneIn, fine, noClass}, api.EARG},
		{[]grad.Example{fine, {}, noClass}, api.EARG}, {[]grad.Example{fine, noClass, {}, fine}, api.ESHAPE},
	} {
		sumsNothing(t, fmt.Sprintf("of %v", c.l), n, hinge, p, c.l, c.err)
	}
	// Behind the refusals nothing is left of the good ones.
	row, far, _ := grad.Of(n, hinge, p, fine)
	sums(t, "behind refusals", n, hinge, p, []grad.Example{fine}, wides(1, row...), wides(1, far)[0])
}

func joins(t *testing.T, what string, a, b, wanted []api.Wide) {
	t.Helper()
	if c, err := grad.Join(a, b); err != api.OK || !slices.Equal(c, wanted) {
		t.Errorf("P14.1: Join %s: %v, %d, want %v", what, short(c), err, short(wanted))
	}
}

func TestJoin(t *testing.T) {
	joins(t, "of none", nil, nil, nil)
	joins(t, "of none", []api.Wide{}, nil, nil)
	joins(t, "of spare room", make([]api.Wide, 3)[:0], make([]api.Wide, 5)[:0], nil)
	joins(t, "of one", wides(1, 5), wides(1, -7), wides(1, -2))
	joins(t, "of three", wides(1, 1, 20, -300), wides(1, 4, -50, 600), wides(1, 5, -30, 300))
	joins(t, "of noughts", wides(1, 1, -2), wides(1, 0, 0), wides(1, 1, -2))
	joins(t, "beyond a Fix", wides(1, top, low), wides(1, top, low), wides(2, top, low))
	many := make([]api.Wide, 5000)
	for i := range many {
		many[i] = api.Wide{Hi: int64(i), Lo: 1 << 63}
	}
	twice := make([]api.Wide, 5000)
	for i := range twice {
		twice[i] = api.Wide{Hi: int64(2*i + 1)}
	}
	joins(t, "of 5000", many, many, twice)
}

// ends are a Wide's, and what is about them.
func ends() []api.Wide {
	return []api.Wide{
		{Hi: math.MaxInt64, Lo: math.MaxUint64}, {Hi: math.MaxInt64}, {Hi: math.MaxInt64, Lo: math.MaxUint64 - 1}, {Hi: math.MinInt64}, {Hi: math.MinInt64, Lo: 1},
		{Hi: math.MinInt64, Lo: math.MaxUint64}, {}, {Lo: 1}, {Lo: 2}, {Hi: -1, Lo: math.MaxUint64}, {Hi: -1}, {Lo: math.MaxUint64}, {Hi: 1}, {Lo: 1 << 63},
	}
}

// At the ends of a Wide it goes round, as Add does.
func TestJoinAtTheEnds(t *testing.T) {
	greatest, least := ends()[0], ends()[3]
	joins(t, "above the greatest", []api.Wide{greatest}, []api.Wide{{Lo: 1}}, []api.Wide{least})
	joins(t, "below the least", []api.Wide{least}, []api.Wide{{Hi: -1, Lo: math.MaxUint64}}, []api.Wide{greatest})
	joins(t, "of the least twice", []api.Wide{least}, []api.Wide{least}, []api.Wide{{}})
	for _, a := range ends() {
		for _, b := range ends() {
			sum := wideOf(new(big.Int).Add(bigOf(a), bigOf(b)))
			joins(t, fmt.Sprintf("of %v and %v", a, b), []api.Wide{a, b, a}, []api.Wide{b, a, {}}, []api.Wide{sum, sum, a})
		}
	}
}

func TestJoinOfOtherLengths(t *testing.T) {
	for a := range 5 {
		for b := range 5 {
			if a == b {
				continue
			}
			// Spare room is no number.
			if c, err := grad.Join(make([]api.Wide, a, 9), make([]api.Wide, b, 9)); err != api.ESHAPE || len(c) != 0 {
				t.Errorf("P14.1: Join of %d and %d: %v, %d, want none, %d", a, b, c, err, api.ESHAPE)
			}
		}
	}
	for _, off := range []int{-1, 1} {
		if c, err := grad.Join(make([]api.Wide, 4096), make([]api.Wide, 4096+off)); err != api.ESHAPE || len(c) != 0 {
			t.Errorf("P14.1: Join of 4096 and %d more: %d numbers, %d", off, len(c), err)
		}
	}
}

// However examples are dealt, the parts' sums join to the whole one.
func TestPartsJoinToTheWhole(t *testing.T) {
	for _, c := range allMade() {
		n := net(t, c.text)
		var l []grad.Example
		for i := range 7 {
			e := c.e
			e.X = append([]api.Fix{e.X[0] + api.Fix(i)*one}, e.X[1:]...)
			l = append(l, e)
		}
		whole, _, _ := grad.Sum(n, c.kind, c.p, l)
		for at := range len(l) + 1 {
			a, _, _ := grad.Sum(n, c.kind, c.p, l[:at])
			b, _, _ := grad.Sum(n, c.kind, c.p, l[at:])
			joins(t, fmt.Sprintf("of %s, dealt at %d", c.what(), at), a, b, whole)
			joins(t, fmt.Sprintf("of %s, dealt at %d, the other way", c.what(), at), b, a, whole)
		}
	}
}
