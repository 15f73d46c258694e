package wide_test

import (
	"math"
	"math/big"
	"testing"

	"carousel/api"
	"carousel/wide"
)

type pair struct{ a, b, want api.Wide }

func holdPairs(t *testing.T, name string, call func(a, b api.Wide) api.Wide, l []pair) {
	t.Helper()
	for _, c := range l {
		if got := call(c.a, c.b); got != c.want {
			t.Errorf("P2.1: %s(%v, %v): %v, want %v", name, c.a, c.b, got, c.want)
		}
	}
}

func TestOf(t *testing.T) {
	for n, want := range map[int64]api.Wide{
		0: {}, 1: {Lo: 1}, 5: {Lo: 5}, -1: {Hi: -1, Lo: math.MaxUint64}, -5: {Hi: -1, Lo: math.MaxUint64 - 4},
		math.MaxInt64: {Lo: 1<<63 - 1}, math.MinInt64: {Hi: -1, Lo: 1 << 63},
	} {
		if got := wide.Of(n); got != want {
			t.Errorf("P2.1: Of(%d): %v, want %v", n, got, want)
		}
	}
}

func TestAdd(t *testing.T) {
	one, minus := wide.Of(1), wide.Of(-1)
	holdPairs(t, "Add", wide.Add, []pair{
		{wide.Of(2), wide.Of(3), wide.Of(5)}, {wide.Of(2), wide.Of(-3), minus}, {one, minus, api.Wide{}},
		{api.Wide{Lo: math.MaxUint64}, one, api.Wide{Hi: 1}}, {api.Wide{Hi: 1}, minus, api.Wide{Lo: math.MaxUint64}},
		{greatest, api.Wide{}, greatest}, {least, api.Wide{}, least}, {greatest, least, minus},
		// Past an end it goes on from the other.
		{greatest, one, least}, {least, minus, greatest}, {greatest, greatest, wide.Of(-2)}, {least, least, api.Wide{}},
	})
}

func TestSub(t *testing.T) {
	one, minus := wide.Of(1), wide.Of(-1)
	holdPairs(t, "Sub", wide.Sub, []pair{
		{wide.Of(3), wide.Of(2), one}, {wide.Of(2), wide.Of(3), minus}, {api.Wide{}, one, minus},
		{api.Wide{Hi: 1}, one, api.Wide{Lo: math.MaxUint64}}, {api.Wide{Lo: math.MaxUint64}, minus, api.Wide{Hi: 1}},
		{greatest, greatest, api.Wide{}}, {least, least, api.Wide{}}, {minus, greatest, least}, {minus, least, greatest},
		{least, one, greatest}, {greatest, minus, least}, {api.Wide{}, least, least}, {greatest, least, minus}, {least, greatest, one},
	})
}

func TestNeg(t *testing.T) {
	for a, want := range map[api.Wide]api.Wide{
		{}: {}, {Lo: 1}: wide.Of(-1), wide.Of(-1): {Lo: 1}, {Hi: 1}: {Hi: -1}, {Hi: -1}: {Hi: 1}, {Hi: 1, Lo: 1}: {Hi: -2, Lo: math.MaxUint64},
		greatest: {Hi: math.MinInt64, Lo: 1}, {Hi: math.MinInt64, Lo: 1}: greatest, least: least,
	} {
		if got := wide.Neg(a); got != want {
			t.Errorf("P2.1: Neg(%v): %v, want %v", a, got, want)
		}
	}
}

func TestProd(t *testing.T) {
	for _, c := range []struct {
		a, b int64
		want api.Wide
	}{
		{1 << 62, 4, api.Wide{Hi: 1}}, {3, 5, wide.Of(15)}, {-3, 5, wide.Of(-15)}, {3, -5, wide.Of(-15)}, {-3, -5, wide.Of(15)},
		{0, -7, api.Wide{}}, {math.MinInt64, 0, api.Wide{}}, {math.MinInt64, 1, wide.Of(math.MinInt64)}, {math.MinInt64, -1, api.Wide{Lo: 1 << 63}},
		{math.MinInt64, math.MinInt64, api.Wide{Hi: 1 << 62}}, {math.MaxInt64, math.MaxInt64, api.Wide{Hi: 1<<62 - 1, Lo: 1}},
		{math.MinInt64, math.MaxInt64, api.Wide{Hi: -1 << 62, Lo: 1 << 63}}, {math.MaxInt64, math.MinInt64, api.Wide{Hi: -1 << 62, Lo: 1 << 63}},
	} {
		if got := wide.Prod(c.a, c.b); got != c.want {
			t.Errorf("P2.1: Prod(%d, %d): %v, want %v", c.a, c.b, got, c.want)
		}
	}
}

func TestCmp(t *testing.T) {
	l := []api.Wide{
		least, {Hi: math.MinInt64, Lo: 1}, {Hi: -2, Lo: 5}, {Hi: -1}, {Hi: -1, Lo: 1 << 63}, {Hi: -1, Lo: math.MaxUint64},
		{}, {Lo: 1}, {Lo: 1 << 63}, {Lo: math.MaxUint64}, {Hi: 1}, {Hi: 1, Lo: 1}, {Hi: math.MaxInt64}, greatest,
	}
	for i, a := range l {
		for j, b := range l {
			want := 0
			if i < j {
				want = -1
			} else if i > j {
				want = 1
			}
			if got := wide.Cmp(a, b); got != want {
				t.Errorf("P2.1: Cmp(%v, %v): %d, want %d", a, b, got, want)
			}
		}
	}
}

func holdAgainstExact(t *testing.T, a, b api.Wide) {
	t.Helper()
	v, w := valueOf(a), valueOf(b)
	if got, want := wide.Add(a, b), wideOf(new(big.Int).Add(v, w)); got != want {
		t.Errorf("P2.1: Add(%v, %v): %v, want %v", a, b, got, want)
	}
	if got, want := wide.Sub(a, b), wideOf(new(big.Int).Sub(v, w)); got != want {
		t.Errorf("P2.1: Sub(%v, %v): %v, want %v", a, b, got, want)
	}
	if got, want := wide.Cmp(a, b), v.Cmp(w); got != want {
		t.Errorf("P2.1: Cmp(%v, %v): %d, want %d", a, b, got, want)
	}
}

func TestExactOfTwo(t *testing.T) {
	near, far := edges(), strewn(5000)
	for i, a := range near {
		// Not each with each, since they are many.
		for j := i % 5; j < len(near); j += 5 {
			holdAgainstExact(t, a, near[j])
		}
	}
	for i, a := range far {
		holdAgainstExact(t, a, far[(i*37+1)%len(far)])
		holdAgainstExact(t, a, near[i%len(near)])
		holdAgainstExact(t, near[i%len(near)], a)
	}
}

func TestExactOfOne(t *testing.T) {
	for _, a := range append(edges(), strewn(5000)...) {
		if got, want := wide.Neg(a), wideOf(new(big.Int).Neg(valueOf(a))); got != want {
			t.Errorf("P2.1: Neg(%v): %v, want %v", a, got, want)
		}
	}
	for _, n := range append(wholeEdges(), strewnWholes(5000)...) {
		if got, want := wide.Of(n), wideOf(big.NewInt(n)); got != want {
			t.Errorf("P2.1: Of(%d): %v, want %v", n, got, want)
		}
	}
}

func holdProd(t *testing.T, a, b int64) {
	t.Helper()
	want := wideOf(new(big.Int).Mul(big.NewInt(a), big.NewInt(b)))
	if got := wide.Prod(a, b); got != want {
		t.Errorf("P2.1: Prod(%d, %d): %v, want %v", a, b, got, want)
	}
}

func TestExactProd(t *testing.T) {
	near, far := wholeEdges(), strewnWholes(5000)
	for _, a := range near {
		for _, b := range near {
			holdProd(t, a, b)
		}
	}
	for i, a := range far {
		holdProd(t, a, far[(i*37+1)%len(far)])
		holdProd(t, a, near[i%len(near)])
	}
}
