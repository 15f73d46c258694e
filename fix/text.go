package fix

import (
	"math/bits"
	"strconv"
	"strings"

	"carousel/api"
)

// The rest of a number is told in ten digits: so many units to one.
const (
	digits = 10
	units  = 10_000_000_000
)

// Text writes a number.
func Text(a api.Fix) string {
	n := size(a)
	hi, lo := bits.Mul64(n&partMask, units)
	rest := byParts(hi, lo)
	// A part is more than two units, so no rest rounds up to one; the carry stands here since the
	// document speaks of it.
	whole := n>>partBits + rest/units
	return sign(a) + strconv.FormatUint(whole, 10) + "." + padded(rest%units)
}

// sign tells what stands ahead of a number.
func sign(a api.Fix) string {
	if a < 0 {
		return "-"
	}
	return ""
}

// padded writes units in all their digits.
func padded(n uint64) string {
	s := strconv.FormatUint(n, 10)
	return strings.Repeat("0", digits-len(s)) + s
}
