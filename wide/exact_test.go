package wide_test

import (
	"math"
	"math/big"
	"math/rand"

	"carousel/api"
)

// The exact values that the tests hold the answers against are whole numbers without bounds: they
// share nothing with the way in which the package reckons.

var (
	greatest = api.Wide{Hi: math.MaxInt64, Lo: math.MaxUint64}
	least    = api.Wide{Hi: math.MinInt64}
)

// powerOfTwo tells 2^n.
func powerOfTwo(n int) *big.Int { return new(big.Int).Lsh(big.NewInt(1), uint(n)) }

// valueOf tells the number that a Wide stands for.
func valueOf(a api.Wide) *big.Int {
	v := new(big.Int).Mul(big.NewInt(a.Hi), powerOfTwo(64))
	return v.Add(v, new(big.Int).SetUint64(a.Lo))
}

// wideOf tells the Wide of a number modulo 2^128, from -2^127 on.
func wideOf(v *big.Int) api.Wide {
	// Both go towards the lower one, so the rest of 2^64 and what is above it are right below 0 too.
	hi, lo := new(big.Int).DivMod(v, powerOfTwo(64), new(big.Int))
	hi.Mod(hi, powerOfTwo(64))
	return api.Wide{Hi: int64(hi.Uint64()), Lo: lo.Uint64()}
}

// nearestWhole rounds over/by, by above 0, to the nearest, of two that are as near to the even one.
func nearestWhole(over, by *big.Int) *big.Int {
	lower, rest := new(big.Int).DivMod(over, by, new(big.Int))
	side := rest.Lsh(rest, 1).Cmp(by)
	if side > 0 || side == 0 && lower.Bit(0) == 1 {
		lower.Add(lower, big.NewInt(1))
	}
	return lower
}

func held(v *big.Int) api.Fix {
	switch {
	case v.IsInt64():
		return api.Fix(v.Int64())
	case v.Sign() < 0:
		return api.Low
	}
	return api.Top
}

func exactShift(a api.Wide, n int) api.Wide {
	if n < 1 || n > 126 {
		return a
	}
	return wideOf(nearestWhole(valueOf(a), powerOfTwo(n)))
}

func exactOver(a api.Wide, n int64) api.Fix {
	over, by := valueOf(a), big.NewInt(n)
	switch {
	case n == 0 && over.Sign() == 0:
		return 0
	case n == 0:
		return held(over.Mul(over, powerOfTwo(128)))
	case n < 0:
		over.Neg(over)
		by.Neg(by)
	}
	return held(nearestWhole(over, by))
}

// edges tells numbers next to powers of two, on both sides of 0, and those next to the bounds.
func edges() []api.Wide {
	l := []api.Wide{{}, greatest, least}
	for n := range 128 {
		p := powerOfTwo(n)
		for by := int64(-2); by <= 2; by++ {
			v := new(big.Int).Add(p, big.NewInt(by))
			l = append(l, wideOf(v), wideOf(v.Neg(v)))
		}
	}
	return l
}

// wholeEdges tells such numbers of 64 bits.
func wholeEdges() []int64 {
	l := []int64{0, 3, 5, 7, 10, -3, -5, -7, -10}
	for n := range 64 {
		for by := int64(-1); by <= 1; by++ {
			l = append(l, int64(1)<<n+by, -(int64(1)<<n + by))
		}
	}
	return l
}

// strewn tells numbers of all sizes, the same in every run.
func strewn(many int) []api.Wide {
	r := rand.New(rand.NewSource(2))
	l := make([]api.Wide, many)
	for i := range l {
		v := valueOf(api.Wide{Hi: int64(r.Uint64()), Lo: r.Uint64()})
		l[i] = wideOf(v.Rsh(v, uint(r.Intn(128))))
	}
	return l
}

// strewnWholes tells such numbers of 64 bits.
func strewnWholes(many int) []int64 {
	r := rand.New(rand.NewSource(3))
	l := make([]int64, many)
	for i := range l {
		l[i] = int64(r.Uint64()) >> r.Intn(64)
	}
	return l
}
