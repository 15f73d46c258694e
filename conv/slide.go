package conv

import "carousel/api"

const (
	rowSides    = 2 // rows, and their numbers
	kernelSides = 3 // windows; in each so many rows, and their numbers
	maxStep     = 64
)

// slide is how windows go over rows. Forward and back the same numbers meet: the three calls differ
// only in which of them are known, and which are summed.
type slide struct{ rows, long, outs, wide, step int }

// stops tells in how many places a window stops.
func (s slide) stops() int { return (s.long-s.wide)/s.step + 1 }

// each tells, for all that meet, the places of the row's number, the window's and the answer's.
func (s slide) each(meet func(in, kernel, out int)) {
	stops := s.stops()
	for o := range s.outs {
		for c := range s.rows {
			for n := range stops {
				in, kernel := c*s.long+n*s.step, (o*s.rows+c)*s.wide
				for w := range s.wide {
					meet(in+w, kernel+w, o*stops+n)
				}
			}
		}
	}
}

func goodStep(step int) bool { return step >= 1 && step <= maxStep }

func goodLength(n int) bool { return n >= 1 && n <= api.MaxSize }
