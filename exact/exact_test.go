package exact_test

import (
	"math/big"
	"math/rand"
	"testing"

	"carousel/api"
	"carousel/exact"
)

const (
	half = api.One / 2
	top  = api.Top
	low  = api.Low
)

func summed(pairs [][2]api.Fix) api.Fix {
	var s exact.Sum
	for _, p := range pairs {
		s.Add(p[0], p[1])
	}
	return s.Fix()
}

// byBig sums in whole numbers without bounds.
func byBig(pairs [][2]api.Fix) api.Fix {
	sum := new(big.Int)
	for _, p := range pairs {
		sum.Add(sum, new(big.Int).Mul(big.NewInt(int64(p[0])), big.NewInt(int64(p[1]))))
	}
	one := big.NewInt(int64(api.One))
	lower, rest := new(big.Int).DivMod(sum, one, new(big.Int))
	side := rest.Lsh(rest, 1).Cmp(one)
	if side > 0 || side == 0 && lower.Bit(0) == 1 {
		lower.Add(lower, big.NewInt(1))
	}
	switch {
	case lower.IsInt64():
		return api.Fix(lower.Int64())
	case lower.Sign() < 0:
		return low
	}
	return top
}

func TestSum(t *testing.T) {
	for _, c := range []struct {
		pairs [][2]api.Fix
		want  api.Fix
	}{
		{nil, 0},
		{[][2]api.Fix{{2 * api.One, 3 * api.One}}, 6 * api.One},
		{[][2]api.Fix{{2 * api.One, 3 * api.One}, {-api.One, 5}}, 6*api.One - 5},
		// Rounded once, of two as near to the even one.
		{[][2]api.Fix{{1, half}}, 0}, {[][2]api.Fix{{3, half}}, 2}, {[][2]api.Fix{{-1, half}}, 0}, {[][2]api.Fix{{-3, half}}, -2},
		{[][2]api.Fix{{1, half}, {1, half}}, 1}, {[][2]api.Fix{{-1, half}, {-1, half}}, -1}, {[][2]api.Fix{{1, half}, {1, 1}}, 1}, {[][2]api.Fix{{-1, half}, {1, -1}}, -1},
		// Held.
		{[][2]api.Fix{{top, api.One}, {1, api.One}}, top}, {[][2]api.Fix{{low, api.One}, {-1, api.One}}, low}, {[][2]api.Fix{{low, -api.One}}, top},
		// Two products of the least number are 2^127: no Wide.
		{[][2]api.Fix{{low, low}, {low, low}}, top}, {[][2]api.Fix{{low, low}, {low, low}, {low, low}, {low, low}}, top}, {[][2]api.Fix{{low, top}, {low, top}, {low, top}}, low},
		{[][2]api.Fix{{low, low}, {low, low}, {low, top}, {low, top}}, 1 << 32}, {[][2]api.Fix{{low, low}, {low, low}, {low, top}, {low, top}, {3, half}}, 1<<32 + 2},
	} {
		if got := summed(c.pairs); got != c.want {
			t.Errorf("sum of the products of %v: %d, want %d", c.pairs, got, c.want)
		}
	}
}

func TestSumOfMany(t *testing.T) {
	r := rand.New(rand.NewSource(1))
	number := func() api.Fix {
		switch r.Intn(8) {
		case 0:
			return top
		case 1:
			return low
		}
		return api.Fix(r.Uint64()) >> r.Intn(64)
	}
	for range 5000 {
		pairs := make([][2]api.Fix, r.Intn(30))
		for i := range pairs {
			pairs[i] = [2]api.Fix{number(), number()}
		}
		if got, wanted := summed(pairs), byBig(pairs); got != wanted {
			t.Fatalf("sum of the products of %v: %d, want %d", pairs, got, wanted)
		}
	}
}

// To be told does not change a sum: it is summed on.
func TestSumIsToldAndGoesOn(t *testing.T) {
	var s exact.Sum
	for i, wanted := range []api.Fix{0, 1, 2, 2, 2, 3} {
		s.Add(1, half)
		if got := s.Fix(); got != wanted || s.Fix() != wanted {
			t.Errorf("%d halves of a part: %d, want %d", i+1, got, wanted)
		}
	}
}
