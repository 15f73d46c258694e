package loss_test

import (
	"fmt"
	"math/big"
	"math/rand"
	"testing"

	"carousel/api"
	"carousel/tape"
)

// What follows tells the chapter's words once more, in whole numbers without bounds.

// held is a whole number of parts within the bounds.
func held(v *big.Int) api.Fix {
	switch {
	case v.Cmp(big.NewInt(int64(top))) > 0:
		return top
	case v.Cmp(big.NewInt(int64(low))) < 0:
		return low
	}
	return api.Fix(v.Int64())
}

// rounded is v by d (above 0): the nearest, of two the even one.
func rounded(v, d *big.Int) *big.Int {
	q, rest := new(big.Int).DivMod(v, d, new(big.Int))
	switch c := new(big.Int).Lsh(rest, 1).Cmp(d); {
	case c > 0, c == 0 && q.Bit(0) == 1:
		q.Add(q, big.NewInt(1))
	}
	return q
}

func wideOf(v api.Fix) *big.Int { return big.NewInt(int64(v)) }

func plus(a, b api.Fix) api.Fix  { return held(new(big.Int).Add(wideOf(a), wideOf(b))) }
func minus(a, b api.Fix) api.Fix { return held(new(big.Int).Sub(wideOf(a), wideOf(b))) }
func times(a, b api.Fix) api.Fix {
	return held(rounded(new(big.Int).Mul(wideOf(a), wideOf(b)), wideOf(one)))
}

func sumOf(v []api.Fix) *big.Int {
	sum := new(big.Int)
	for _, x := range v {
		sum.Add(sum, wideOf(x))
	}
	return sum
}

func allOf(v []api.Fix) api.Fix  { return held(sumOf(v)) }
func meanOf(v []api.Fix) api.Fix { return held(rounded(sumOf(v), big.NewInt(int64(len(v))))) }

// each makes a list, place by place.
func each(many int, f func(i int) api.Fix) []api.Fix {
	v := make([]api.Fix, many)
	for i := range v {
		v[i] = f(i)
	}
	return v
}

func mustSquare(row, want []api.Fix) []tape.Node {
	off := each(len(row), func(i int) api.Fix { return minus(row[i], want[i]) })
	squares := each(len(row), func(i int) api.Fix { return times(off[i], off[i]) })
	return []tape.Node{
		leaf(line(want...)), {Op: 3, A: out, B: 0, T: line(off...)},
		{Op: 4, A: 1, B: 1, T: line(squares...)}, {Op: 10, A: 2, B: -1, T: number(meanOf(squares))},
	}
}

func mustSize(row, want []api.Fix) []tape.Node {
	off := each(len(row), func(i int) api.Fix { return minus(row[i], want[i]) })
	sizes := each(len(row), func(i int) api.Fix { return held(new(big.Int).Abs(wideOf(off[i]))) })
	return []tape.Node{
		leaf(line(want...)), {Op: 3, A: out, B: 0, T: line(off...)},
		{Op: 11, A: 1, B: -1, K: 4, T: line(sizes...)}, {Op: 10, A: 2, B: -1, T: number(meanOf(sizes))},
	}
}

func mustHinge(row []api.Fix, class int) []tape.Node {
	many := len(row)
	own, others := make([]api.Fix, many), each(many, func(int) api.Fix { return one })
	own[class], others[class] = -one, 0
	picked := make([]api.Fix, many)
	picked[class] = minus(0, row[class])
	ahead := each(many, func(i int) api.Fix { return plus(row[i], picked[class]) })
	nearer := each(many, func(i int) api.Fix { return plus(ahead[i], others[i]) })
	above := each(many, func(i int) api.Fix { return max(nearer[i], 0) })
	counted := each(many, func(i int) api.Fix { return times(above[i], others[i]) })
	return []tape.Node{
		leaf(line(own...)), leaf(line(others...)),
		{Op: 4, A: out, B: 0, T: line(picked...)}, {Op: 9, A: 2, B: -1, T: number(picked[class])},
		{Op: 2, A: out, B: 3, T: line(ahead...)}, {Op: 2, A: 4, B: 1, T: line(nearer...)},
		{Op: 11, A: 5, B: -1, K: 1, T: line(above...)}, {Op: 4, A: 6, B: 1, T: line(counted...)},
		{Op: 9, A: 7, B: -1, T: number(allOf(counted))},
	}
}

// strewn has numbers of all sizes, the bounds among them, the same in every run.
func strewn(r *rand.Rand, many int) []api.Fix {
	v := make([]api.Fix, many)
	for i := range v {
		v[i] = api.Fix(r.Uint64()) >> r.Intn(64)
		if r.Intn(12) == 0 {
			v[i] = []api.Fix{top, low, 0, one, -one}[r.Intn(5)]
		}
	}
	return v
}

func TestStrewnRows(t *testing.T) {
	r := rand.New(rand.NewSource(1))
	for range 3000 {
		many := 1 + r.Intn(9)
		row, want, class := strewn(r, many), strewn(r, many), r.Intn(many)
		x := tape.New()
		for range r.Intn(4) {
			x.Leaf(line(strewn(r, many)...))
		}
		at, _ := x.Leaf(line(row...))
		for range r.Intn(4) {
			x.Leaf(line(strewn(r, many)...))
		}
		told(t, fmt.Sprint("Square of ", row, want), x, at, square(want...), behind(x.Len(), at, mustSquare(row, want)))
		told(t, fmt.Sprint("Size of ", row, want), x, at, size(want...), behind(x.Len(), at, mustSize(row, want)))
		told(t, fmt.Sprint("Hinge of ", row, class), x, at, hinge(class), behind(x.Len(), at, mustHinge(row, class)))
		if t.Failed() {
			return
		}
	}
}

// Long rows, and every place of one as the class.
func TestStrewnLongRows(t *testing.T) {
	r := rand.New(rand.NewSource(2))
	for _, many := range []int{64, 257, 4095, api.MaxSize} {
		row, want := strewn(r, many), strewn(r, many)
		x := laidOut(t, line(row...))
		told(t, fmt.Sprint("Square of ", many), x, 0, square(want...), behind(x.Len(), 0, mustSquare(row, want)))
		told(t, fmt.Sprint("Size of ", many), x, 0, size(want...), behind(x.Len(), 0, mustSize(row, want)))
		for _, class := range []int{0, many / 2, many - 1} {
			told(t, fmt.Sprint("Hinge of ", many, class), x, 0, hinge(class), behind(x.Len(), 0, mustHinge(row, class)))
		}
	}
	for many := range 12 {
		row := strewn(r, many+1)
		for class := range row {
			x := laidOut(t, line(row...))
			told(t, fmt.Sprint("Hinge of ", row, class), x, 0, hinge(class), behind(1, 0, mustHinge(row, class)))
		}
	}
}
