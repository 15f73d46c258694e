package grad

import (
	"carousel/api"
	"carousel/loss"
	"carousel/tape"
)

// The kinds of losses.
const (
	square = 1
	size   = 2
	hinge  = 3
)

func isKind(kind int) bool { return kind >= square && kind <= hinge }

// layLoss tells the loss' node: by the kind, only Y counts of an example, or only Class.
func layLoss(t *tape.Tape, out, kind int, e Example) (int, api.Errno) {
	switch kind {
	case square:
		return loss.Square(t, out, e.Y)
	case size:
		return loss.Size(t, out, e.Y)
	case hinge:
		return loss.Hinge(t, out, e.Class)
	}
	return 0, api.EARG
}
