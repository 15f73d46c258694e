// Package fix: numbers of a fixed point: see DOC.md, chapter 1.
package fix

import (
	"cmp"
	"math/bits"

	"carousel/api"
)

// A number has 2^32 parts to one.
const (
	partBits = 32
	partMask = 1<<partBits - 1
)

// Add adds.
func Add(a, b api.Fix) api.Fix {
	sum := a + b
	// The sum wrapped round only if its sign is neither a's nor b's.
	if (a^sum)&(b^sum) < 0 {
		return bound(a < 0)
	}
	return sum
}

// Sub takes away. It does not add the negated b: Low, negated, is held, and so no longer exact.
func Sub(a, b api.Fix) api.Fix {
	diff := a - b
	// It wrapped round only if the signs of a and b differ and a's was lost.
	if (a^b)&(a^diff) < 0 {
		return bound(a < 0)
	}
	return diff
}

// Neg turns a number round.
func Neg(a api.Fix) api.Fix { return Sub(0, a) }

// Mul multiplies.
func Mul(a, b api.Fix) api.Fix {
	below := (a < 0) != (b < 0)
	hi, lo := bits.Mul64(size(a), size(b))
	// The product has 2^63 parts or more.
	if hi>>(partBits-1) != 0 {
		return bound(below)
	}
	return held(below, byParts(hi, lo))
}

// Div divides.
func Div(a, b api.Fix) api.Fix {
	if b == 0 {
		return overNought(a)
	}
	below := (a < 0) != (b < 0)
	over, by := size(a), size(b)
	// The quotient has 2^63 parts or more: bits.Div64 panics at 2^64.
	if over>>(partBits-1) >= by {
		return bound(below)
	}
	whole, rest := bits.Div64(over>>partBits, over<<partBits, by)
	return held(below, nearest(whole, rest, by))
}

// Of tells a whole number's.
func Of(n int64) api.Fix {
	if n > int64(api.Top>>partBits) {
		return api.Top
	}
	if n < int64(api.Low>>partBits) {
		return api.Low
	}
	return api.Fix(n << partBits)
}

// Cmp compares.
func Cmp(a, b api.Fix) int { return cmp.Compare(a, b) }

// overNought tells what a by 0 is.
func overNought(a api.Fix) api.Fix {
	if a == 0 {
		return 0
	}
	return bound(a < 0)
}

// size tells how far from 0 a number is: as a uint64, since Low's size is no Fix.
func size(a api.Fix) uint64 {
	if a < 0 {
		return -uint64(a)
	}
	return uint64(a)
}

// bound tells the number that all beyond it are held at.
func bound(below bool) api.Fix {
	if below {
		return api.Low
	}
	return api.Top
}

// held tells the number of a size and a sign.
func held(below bool, n uint64) api.Fix {
	if n > uint64(api.Top) {
		return bound(below)
	}
	if below {
		return -api.Fix(n)
	}
	return api.Fix(n)
}

// byParts tells hi times 2^64, and lo, by 2^32, rounded. The quotient must be less than 2^64 - 1.
func byParts(hi, lo uint64) uint64 {
	return nearest(hi<<partBits|lo>>partBits, lo&partMask, 1<<partBits)
}

// nearest rounds whole and rest/by, where rest is less than by, and by at most 2^63: so twice the
// rest still fits. It works on sizes, as rounding to the even one is the same on both sides of 0.
func nearest(whole, rest, by uint64) uint64 {
	if 2*rest > by || 2*rest == by && whole%2 == 1 {
		return whole + 1
	}
	return whole
}
