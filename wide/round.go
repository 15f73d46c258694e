package wide

import (
	"math/bits"

	"carousel/api"
	"carousel/fix"
)

// The powers of two by which Shift divides.
const (
	leastShift    = 1
	greatestShift = 126
)

// Shift divides by a power of two.
func Shift(a api.Wide, n int) api.Wide {
	if n < leastShift || n > greatestShift {
		return a
	}
	lower := floor(a, n)
	half := floor(a, n-1).Lo%2 == 1
	more := zeros(a) < n-1
	// What is rounded lies above the lower one on both sides of 0, so the sign does not matter here.
	if half && (more || lower.Lo%2 == 1) {
		return Add(lower, Of(1))
	}
	return lower
}

// Fix holds a number.
func Fix(a api.Wide) api.Fix {
	if Of(int64(a.Lo)) != a {
		return bound(a.Hi < 0)
	}
	return api.Fix(a.Lo)
}

// Over divides by a number.
func Over(a api.Wide, n int64) api.Fix {
	if n == 0 {
		// Held, a number keeps its sign, and only that counts.
		return fix.Div(Fix(a), 0)
	}
	below := (a.Hi < 0) != (n < 0)
	over, by := signed(a.Hi < 0, a), size(n)
	// The least number's size, 2^127, fills the sign bit too: so Hi is read without a sign.
	hi := uint64(over.Hi)
	// The quotient is 2^64 or more: bits.Div64 panics there.
	if hi >= by {
		return bound(below)
	}
	whole, rest := bits.Div64(hi, over.Lo, by)
	return Fix(signed(below, nearest(whole, rest, by)))
}

// floor tells the greatest whole number that is not above a by 2^n; n is from 0 to 126.
func floor(a api.Wide, n int) api.Wide {
	if n >= 64 {
		return Of(a.Hi >> (n - 64))
	}
	// By 2^0 Hi gives Lo nothing: Go shifts by 64 to 0.
	return api.Wide{Hi: a.Hi >> n, Lo: uint64(a.Hi)<<(64-n) | a.Lo>>n}
}

// zeros tells how many of the lowest bits are 0.
func zeros(a api.Wide) int {
	if a.Lo == 0 {
		return 64 + bits.TrailingZeros64(uint64(a.Hi))
	}
	return bits.TrailingZeros64(a.Lo)
}

// nearest rounds whole and rest/by, where rest is less than by, and by at most 2^63: so twice the
// rest still fits. One more than whole need not fit into 64 bits: so it is a Wide.
func nearest(whole, rest, by uint64) api.Wide {
	n := api.Wide{Lo: whole}
	if 2*rest > by || 2*rest == by && whole%2 == 1 {
		return Add(n, Of(1))
	}
	return n
}

// bound tells the number that all beyond it are held at.
func bound(below bool) api.Fix {
	if below {
		return api.Low
	}
	return api.Top
}
