package model

import (
	"carousel/api"
	"carousel/tape"
)

// The tape's Ops that layers want.
const (
	opLeaf  = 1
	opAdd   = 2
	opMul   = 4
	opSum   = 8
	opBend  = 11
	opRow   = 12
	opPool  = 13
	opShape = 14
)

// step is a node to be. The nodes that it is of are counted from the plan's first one on.
type step struct {
	op, a, b int
	k        api.Fix
	leaf     api.Tensor
	param    bool
}

// plan is all nodes of one run, known before the first of them is laid on the tape.
type plan struct {
	steps []step
	rest  []api.Fix // the parameters that have no Leaf yet
}

// planOf wants just as many numbers as the net has.
func planOf(n Net, shapes [][]int, p, x []api.Fix) []step {
	all := &plan{rest: p}
	before, last := 0, all.add(step{op: opLeaf, leaf: api.Tensor{Dims: n.In, V: x}})
	for i, l := range n.Layers {
		before, last = last, all.layer(l, shapes[i], before, last)
	}
	return all.steps
}

// layer tells the node that goes out, of that which comes in (last), and of that which went into the
// layer ahead (before).
func (p *plan) layer(l Layer, in []int, before, last int) int {
	var params []int
	for _, d := range paramsOf(l, in) {
		params = append(params, p.param(d))
	}
	switch l.Kind {
	case dense:
		return p.dense(params[0], params[1], in, last)
	case conv:
		return p.add(step{op: opRow, a: last, b: params[0], k: 1})
	case pool:
		return p.add(step{op: opPool, a: last, k: api.Fix(l.A)})
	case bend:
		return p.add(step{op: opBend, a: last, k: api.Fix(l.A)})
	}
	return p.add(step{op: opAdd, a: before, b: last})
}

func (p *plan) dense(matrix, row int, in []int, last int) int {
	if len(in) == 2 {
		last = p.add(step{op: opShape, a: last})
	}
	products := p.add(step{op: opMul, a: matrix, b: last})
	sums := p.add(step{op: opSum, a: products, k: 1})
	return p.add(step{op: opAdd, a: sums, b: row})
}

// param adds a Leaf of the next parameters.
func (p *plan) param(d []int) int {
	size := sizeOf(d)
	leaf := api.Tensor{Dims: d, V: p.rest[:size]}
	p.rest = p.rest[size:]
	return p.add(step{op: opLeaf, leaf: leaf, param: true})
}

func (p *plan) add(s step) int {
	p.steps = append(p.steps, s)
	return len(p.steps) - 1
}

// play lays a plan on a tape that has room for it, and tells the last node, and the parameters' ones.
func play(t *tape.Tape, steps []step) (int, []int, api.Errno) {
	first := t.Len()
	last := 0
	var params []int
	for _, s := range steps {
		node, err := lay(t, s, first)
		if err != api.OK {
			return 0, nil, err
		}
		if s.param {
			params = append(params, node)
		}
		last = node
	}
	return last, params, api.OK
}

func lay(t *tape.Tape, s step, first int) (int, api.Errno) {
	if s.op == opLeaf {
		return t.Leaf(s.leaf)
	}
	return t.Do(s.op, first+s.a, first+s.b, s.k)
}
