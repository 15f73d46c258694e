package act

import (
	"carousel/api"
	"carousel/fix"
)

// The kinds of lines.
const (
	ramp = 1
	leak = 2
	hold = 3
	size = 4
	step = 5
)

// half and eighth are exact: One is a power of two.
const (
	half   = api.One / 2
	eighth = api.One / 8
)

// line has what it makes of a number, and how steep it is there.
type line struct {
	bend, slope func(x api.Fix) api.Fix
}

// lineOf tells the line of a kind, if there is one.
func lineOf(kind int) (line, bool) {
	switch kind {
	case ramp:
		return line{bendRamp, slopeRamp}, true
	case leak:
		return line{bendLeak, slopeLeak}, true
	case hold:
		return line{bendHold, slopeHold}, true
	case size:
		return line{bendSize, slopeSize}, true
	case step:
		return line{bendStep, slopeStep}, true
	}
	return line{}, false
}

func bendRamp(x api.Fix) api.Fix { return max(x, 0) }

func slopeRamp(x api.Fix) api.Fix {
	if x > 0 {
		return api.One
	}
	return 0
}

func bendLeak(x api.Fix) api.Fix {
	if x > 0 {
		return x
	}
	return fix.Div(x, fix.Of(8))
}

func slopeLeak(x api.Fix) api.Fix {
	if x > 0 {
		return api.One
	}
	return eighth
}

func bendHold(x api.Fix) api.Fix { return min(max(x, -api.One), api.One) }

func slopeHold(x api.Fix) api.Fix {
	if inside(x) {
		return api.One
	}
	return 0
}

func bendSize(x api.Fix) api.Fix {
	if x < 0 {
		return fix.Neg(x)
	}
	return x
}

func slopeSize(x api.Fix) api.Fix {
	switch {
	case x > 0:
		return api.One
	case x < 0:
		return -api.One
	}
	return 0
}

func bendStep(x api.Fix) api.Fix {
	y := fix.Add(fix.Div(x, fix.Of(2)), half)
	return min(max(y, 0), api.One)
}

func slopeStep(x api.Fix) api.Fix {
	if inside(x) {
		return half
	}
	return 0
}

// inside tells of a number between -1 and 1: at those two the line is flat already.
func inside(x api.Fix) bool { return x > -api.One && x < api.One }
