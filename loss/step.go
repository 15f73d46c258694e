package loss

import (
	"carousel/api"
	"carousel/tape"
)

// The tape's Ops that losses want.
const (
	opLeaf = 1
	opAdd  = 2
	opSub  = 3
	opMul  = 4
	opAll  = 9
	opMean = 10
	opBend = 11
)

// The kinds of bent lines that losses want.
const (
	kindRamp = 1
	kindSize = 4
)

// step is a node to be, of a Leaf's numbers or of the nodes a and b.
type step struct {
	op, a, b int
	k        api.Fix
	leaf     api.Tensor
}

// lay tells the last node. A tape that gets full on the way would keep the nodes that still had room:
// so all of them are known before the first is laid.
func lay(t *tape.Tape, steps []step) (int, api.Errno) {
	if t.Len()+len(steps) > api.MaxOps {
		return 0, api.ELIMIT
	}
	last := 0
	for _, s := range steps {
		node, err := layOne(t, s)
		if err != api.OK {
			return 0, err
		}
		last = node
	}
	return last, api.OK
}

func layOne(t *tape.Tape, s step) (int, api.Errno) {
	if s.op == opLeaf {
		return t.Leaf(s.leaf)
	}
	return t.Do(s.op, s.a, s.b, s.k)
}

// rowOf shares v's memory: the tape takes a copy.
func rowOf(v []api.Fix) api.Tensor { return api.Tensor{Dims: []int{len(v)}, V: v} }

// rowBut has one number everywhere but at one place.
func rowBut(many int, all api.Fix, place int, there api.Fix) api.Tensor {
	v := make([]api.Fix, many)
	for i := range v {
		v[i] = all
	}
	v[place] = there
	return rowOf(v)
}
