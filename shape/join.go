package shape

import "carousel/api"

// Join tells what two spread to.
func Join(a, b []int) ([]int, api.Errno) {
	if !Good(a) || !Good(b) {
		return nil, api.EARG
	}
	both := make([]int, max(len(a), len(b)))
	for back := 1; back <= len(both); back++ {
		side, ok := joined(fromLast(a, back), fromLast(b, back))
		if !ok {
			return nil, api.ESHAPE
		}
		both[len(both)-back] = side
	}
	if !Good(both) {
		return nil, api.ELIMIT
	}
	return both, api.OK
}

// From tells what is spread to a place.
func From(d, big []int, at int) (int, bool) {
	both, err := Join(d, big)
	if err != api.OK || !Same(both, big) || at < 0 || at >= Size(big) {
		return 0, false
	}
	from, step := 0, 1
	for back := 1; back <= len(d); back++ {
		side, bigSide := fromLast(d, back), fromLast(big, back)
		// Along a side of 1 that is spread, all are the first one.
		from += at % bigSide % side * step
		step *= side
		at /= bigSide
	}
	return from, true
}

// fromLast counts back from 1, the last number. One that is not there is as a 1: either way the
// other's number is taken.
func fromLast(d []int, back int) int {
	if back > len(d) {
		return 1
	}
	return d[len(d)-back]
}

// joined tells the side that two sides spread to.
func joined(a, b int) (int, bool) {
	if a == 1 {
		return b, true
	}
	return a, b == 1 || a == b
}
