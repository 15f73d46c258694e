package fix_test

import (
	"math/big"
	"math/rand"
	"strings"

	"carousel/api"
)

// The exact values that the tests hold the answers against are fractions of whole numbers without
// bounds: they share nothing with the way in which the package reckons.

// nearestWhole rounds a fraction to the nearest whole number, of two that are as near to the even one.
func nearestWhole(v *big.Rat) *big.Int {
	two := big.NewInt(2)
	double := new(big.Int).Mul(v.Num(), two)
	double.Add(double, v.Denom())
	per := new(big.Int).Mul(v.Denom(), two)
	// The floor of v + 1/2; Div of a divisor above 0 goes towards the lower one.
	near, rest := new(big.Int).DivMod(double, per, new(big.Int))
	if rest.Sign() == 0 && near.Bit(0) == 1 {
		near.Sub(near, big.NewInt(1))
	}
	return near
}

// roundedAndHeld tells the Fix that so many parts, a fraction of them perhaps, must give.
func roundedAndHeld(parts *big.Rat) api.Fix {
	n := nearestWhole(parts)
	if n.Cmp(big.NewInt(int64(api.Top))) > 0 {
		return api.Top
	}
	if n.Cmp(big.NewInt(int64(api.Low))) < 0 {
		return api.Low
	}
	return api.Fix(n.Int64())
}

// valueOf tells the number that a Fix stands for.
func valueOf(a api.Fix) *big.Rat { return big.NewRat(int64(a), int64(api.One)) }

// fixOf tells the Fix that a number must give.
func fixOf(v *big.Rat) api.Fix {
	return roundedAndHeld(new(big.Rat).Mul(v, big.NewRat(int64(api.One), 1)))
}

func exactAdd(a, b api.Fix) api.Fix { return fixOf(new(big.Rat).Add(valueOf(a), valueOf(b))) }
func exactSub(a, b api.Fix) api.Fix { return fixOf(new(big.Rat).Sub(valueOf(a), valueOf(b))) }
func exactMul(a, b api.Fix) api.Fix { return fixOf(new(big.Rat).Mul(valueOf(a), valueOf(b))) }

func exactDiv(a, b api.Fix) api.Fix {
	switch {
	case b != 0:
		return fixOf(new(big.Rat).Quo(valueOf(a), valueOf(b)))
	case a > 0:
		return api.Top
	case a < 0:
		return api.Low
	}
	return 0
}

// exactText writes a number by its size in units of the tenth digit.
func exactText(a api.Fix) string {
	v := valueOf(a)
	v.Mul(v.Abs(v), big.NewRat(10_000_000_000, 1))
	s := nearestWhole(v).String()
	if len(s) < 11 {
		s = strings.Repeat("0", 11-len(s)) + s
	}
	at := len(s) - 10
	s = s[:at] + "." + s[at:]
	if a < 0 {
		s = "-" + s
	}
	return s
}

// edges tells numbers next to powers of two and of whole ones, on both sides of 0, and the bounds.
func edges() []api.Fix {
	l := []api.Fix{0, api.Top, api.Top - 1, api.Top - 2, api.Low, api.Low + 1, api.Low + 2}
	for i := range 63 {
		n := api.Fix(1) << i
		for _, by := range []api.Fix{-1, 0, 1} {
			l = append(l, n+by, -n+by)
		}
	}
	for _, n := range []api.Fix{3, 5, 7, 10, 46340, 46341} {
		l = append(l, n, -n, n*api.One, -n*api.One, n*api.One/2, -n*api.One/2)
	}
	return l
}

// strewn tells numbers of all sizes, the same in every run.
func strewn(many int) []api.Fix {
	r := rand.New(rand.NewSource(1))
	l := make([]api.Fix, many)
	for i := range l {
		l[i] = api.Fix(r.Uint64()) >> r.Intn(64)
	}
	return l
}
