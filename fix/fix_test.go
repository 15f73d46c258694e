package fix_test

import (
	"math"
	"math/big"
	"testing"

	"carousel/api"
	"carousel/fix"
)

type pair struct{ a, b, want api.Fix }

func holdPairs(t *testing.T, name string, call func(a, b api.Fix) api.Fix, l []pair) {
	t.Helper()
	for _, c := range l {
		if got := call(c.a, c.b); got != c.want {
			t.Errorf("P1.1: %s(%d, %d): %d, want %d", name, c.a, c.b, got, c.want)
		}
	}
}

func TestAdd(t *testing.T) {
	holdPairs(t, "Add", fix.Add, []pair{
		{0, 0, 0}, {1, 2, 3}, {-1, -2, -3}, {5, -7, -2}, {api.One, api.One / 2, 3 * api.One / 2},
		{api.Top, 0, api.Top}, {api.Top - 1, 1, api.Top}, {api.Top, 1, api.Top}, {api.Top, api.Top, api.Top},
		{api.Low, 0, api.Low}, {api.Low + 1, -1, api.Low}, {api.Low, -1, api.Low}, {api.Low, api.Low, api.Low},
		{api.Low, api.Top, -1}, {api.Top, api.Low, -1},
	})
}

func TestSub(t *testing.T) {
	holdPairs(t, "Sub", fix.Sub, []pair{
		{0, 0, 0}, {3, 2, 1}, {2, 3, -1}, {-2, -3, 1},
		{api.Top, 0, api.Top}, {api.Top - 1, -1, api.Top}, {api.Top, -1, api.Top}, {api.Top, api.Low, api.Top},
		{api.Low, 0, api.Low}, {api.Low + 1, 1, api.Low}, {api.Low, 1, api.Low}, {api.Low, api.Top, api.Low},
		{0, api.Low, api.Top}, {-1, api.Low, api.Top}, {-2, api.Low, api.Top - 1},
		{api.Low, api.Low, 0}, {api.Top, api.Top, 0}, {0, api.Top, api.Low + 1},
	})
}

func TestNeg(t *testing.T) {
	for a, want := range map[api.Fix]api.Fix{
		0: 0, 5: -5, -5: 5, api.One: -api.One,
		api.Top: api.Low + 1, api.Low + 1: api.Top, api.Low: api.Top,
	} {
		if got := fix.Neg(a); got != want {
			t.Errorf("P1.1: Neg(%d): %d, want %d", a, got, want)
		}
	}
}

func TestMul(t *testing.T) {
	holdPairs(t, "Mul", fix.Mul, []pair{
		{api.One, api.One, api.One}, {2 * api.One, 3 * api.One, 6 * api.One}, {-2 * api.One, 3 * api.One, -6 * api.One},
		{-2 * api.One, -3 * api.One, 6 * api.One}, {api.Top, 0, 0}, {0, api.Low, 0},
		{api.Top, api.One, api.Top}, {api.Low, api.One, api.Low}, {api.Top, -api.One, api.Low + 1},
	})
}

func TestMulRounds(t *testing.T) {
	half, quarter := api.One/2, api.One/4
	holdPairs(t, "Mul", fix.Mul, []pair{
		{1, half, 0}, {3, half, 2}, {5, half, 2}, {7, half, 4},
		{-1, half, 0}, {-3, half, -2}, {-5, half, -2}, {-7, half, -4}, {-3, -half, 2},
		{1, quarter, 0}, {3, quarter, 1}, {5, quarter, 1}, {7, quarter, 2}, {-3, quarter, -1},
		{1, half + 1, 1}, {1, half - 1, 0}, {-1, half + 1, -1}, {1, 1, 0}, {1, -1, 0},
	})
}

func TestMulHolds(t *testing.T) {
	holdPairs(t, "Mul", fix.Mul, []pair{
		{api.Top, api.Top, api.Top}, {api.Low, api.Low, api.Top}, {api.Low, api.Top, api.Low}, {api.Top, api.Low, api.Low},
		{api.Low, -api.One, api.Top}, {api.Top, api.One + 1, api.Top}, {api.Low, api.One + 1, api.Low},
		{46340 * api.One, 46340 * api.One, 46340 * 46340 * api.One}, {46341 * api.One, 46341 * api.One, api.Top},
		{46341 * api.One, -46341 * api.One, api.Low},
		// 2^63 parts, the first that are beyond Top and the last that are not beyond Low, and less.
		{1 << 47, 1 << 48, api.Top}, {-1 << 47, 1 << 48, api.Low}, {1<<47 - 1, 1 << 48, api.Top - 1<<16 + 1},
		// Half a part less than 2^63: the even one of the two is 2^63.
		{api.One + 1, 1<<63 - 1<<31, api.Top}, {-api.One - 1, 1<<63 - 1<<31, api.Low}, {-api.One - 1, 1<<63 - 1<<31 - 1, api.Low + 2},
	})
}

func TestDiv(t *testing.T) {
	third := api.Fix(1431655765)
	holdPairs(t, "Div", fix.Div, []pair{
		{api.One, fix.Of(3), third}, {-api.One, fix.Of(3), -third}, {api.One, fix.Of(-3), -third}, {-api.One, fix.Of(-3), third},
		{fix.Of(2), fix.Of(3), 2863311531}, {fix.Of(6), fix.Of(3), fix.Of(2)}, {1, 1, api.One}, {1, api.Top, 0},
		{0, 5, 0}, {0, api.Low, 0}, {api.Low, api.Low, api.One}, {api.Top, api.Top, api.One},
		{api.Low, api.One, api.Low}, {api.Top, api.One, api.Top},
	})
}

func TestDivRounds(t *testing.T) {
	holdPairs(t, "Div", fix.Div, []pair{
		{1, fix.Of(2), 0}, {3, fix.Of(2), 2}, {5, fix.Of(2), 2}, {7, fix.Of(2), 4},
		{-1, fix.Of(2), 0}, {-3, fix.Of(2), -2}, {5, fix.Of(-2), -2}, {-7, fix.Of(-2), 4},
		{1, fix.Of(4), 0}, {3, fix.Of(4), 1}, {-3, fix.Of(4), -1},
		// By Low, the greatest size there is: twice the rest comes near to 2^64.
		{1 << 30, api.Low, 0}, {1<<30 + 1, api.Low, -1}, {1<<31 - 1, api.Low, -1}, {3 << 30, api.Low, -2}, {-3 << 30, api.Low, 2},
	})
}

func TestDivHolds(t *testing.T) {
	holdPairs(t, "Div", fix.Div, []pair{
		{api.Top, 1, api.Top}, {api.Low, 1, api.Low}, {api.Low, -1, api.Top}, {api.Top, -1, api.Low},
		{api.Low, -api.One, api.Top}, {api.Top, api.One - 1, api.Top}, {api.Low, api.One - 1, api.Low},
		{api.One / 2, 1, api.Top}, {api.One / 2, -1, api.Low}, {api.One/2 - 1, 1, api.Top - 1<<32 + 1},
		// The quotient has 2^64 parts or nearly so many.
		{1 << 62, 1 << 30, api.Top}, {1<<62 - 1, 1 << 30, api.Top}, {-1 << 62, 1 << 30, api.Low}, {api.Top, 1<<31 - 1, api.Top},
	})
}

func TestDivByNought(t *testing.T) {
	holdPairs(t, "Div", fix.Div, []pair{
		{0, 0, 0}, {1, 0, api.Top}, {-1, 0, api.Low}, {api.Top, 0, api.Top}, {api.Low, 0, api.Low},
	})
}

func TestOf(t *testing.T) {
	for n, want := range map[int64]api.Fix{
		0: 0, 1: api.One, -1: -api.One, 3: 3 * api.One,
		1<<31 - 1: (1<<31 - 1) << 32, 1 << 31: api.Top, 1<<31 + 1: api.Top, 1 << 32: api.Top, math.MaxInt64: api.Top,
		-1<<31 + 1: api.Low + api.One, -1 << 31: api.Low, -1<<31 - 1: api.Low, -1 << 32: api.Low, math.MinInt64: api.Low,
	} {
		if got := fix.Of(n); got != want {
			t.Errorf("P1.1: Of(%d): %d, want %d", n, got, want)
		}
	}
}

func TestCmp(t *testing.T) {
	l := []api.Fix{api.Low, api.Low + 1, -api.One, -1, 0, 1, api.One, api.Top - 1, api.Top}
	for i, a := range l {
		for j, b := range l {
			want := 0
			if i < j {
				want = -1
			} else if i > j {
				want = 1
			}
			if got := fix.Cmp(a, b); got != want {
				t.Errorf("P1.1: Cmp(%d, %d): %d, want %d", a, b, got, want)
			}
		}
	}
}

func holdAgainstExact(t *testing.T, a, b api.Fix) {
	t.Helper()
	for _, c := range []struct {
		name      string
		got, want api.Fix
	}{
		{"Add", fix.Add(a, b), exactAdd(a, b)},
		{"Sub", fix.Sub(a, b), exactSub(a, b)},
		{"Mul", fix.Mul(a, b), exactMul(a, b)},
		{"Div", fix.Div(a, b), exactDiv(a, b)},
	} {
		if c.got != c.want {
			t.Errorf("P1.1: %s(%d, %d): %d, want %d", c.name, a, b, c.got, c.want)
		}
	}
}

func TestExactOfTwo(t *testing.T) {
	near, far := edges(), strewn(2000)
	for i, a := range near {
		// Not each with each, since fractions are slow.
		for j := i % 4; j < len(near); j += 4 {
			holdAgainstExact(t, a, near[j])
		}
	}
	for i, a := range far {
		holdAgainstExact(t, a, far[(i*37+1)%len(far)])
		holdAgainstExact(t, a, near[i%len(near)])
		holdAgainstExact(t, near[i%len(near)], a)
	}
}

func TestExactOfOne(t *testing.T) {
	for _, a := range append(edges(), strewn(2000)...) {
		if got, want := fix.Neg(a), fixOf(new(big.Rat).Neg(valueOf(a))); got != want {
			t.Errorf("P1.1: Neg(%d): %d, want %d", a, got, want)
		}
		if got, want := fix.Of(int64(a)), fixOf(big.NewRat(int64(a), 1)); got != want {
			t.Errorf("P1.1: Of(%d): %d, want %d", int64(a), got, want)
		}
	}
}
