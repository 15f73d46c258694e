package tape

import (
	"carousel/act"
	"carousel/api"
	"carousel/conv"
	"carousel/matm"
	"carousel/tens"
)

// The Ops.
const (
	leaf   = 1
	add    = 2
	sub    = 3
	mul    = 4
	scale  = 5
	matmul = 6
	flip   = 7
	sum    = 8
	all    = 9
	mean   = 10
	bend   = 11
	row    = 12
	pool   = 13
	shape  = 14
)

// hasB tells whether an Op is of two nodes.
func hasB(op int) bool {
	switch op {
	case add, sub, mul, matmul, row:
		return true
	}
	return false
}

// hasK tells whether an Op has a number of its own.
func hasK(op int) bool {
	switch op {
	case scale, sum, bend, row, pool:
		return true
	}
	return false
}

// reckon tells the tensor of an Op, in new memory; EARG of what is none, and of a leaf, which is
// handed in. Only scale takes k as the number that it stands for; a side, a kind, a step or a width
// is k's parts themselves.
func reckon(op int, a, b api.Tensor, k api.Fix) (api.Tensor, api.Errno) {
	switch op {
	case add:
		return tens.Add(a, b)
	case sub:
		return tens.Sub(a, b)
	case mul:
		return tens.Mul(a, b)
	case scale:
		return tens.Scale(a, k)
	case matmul:
		return matm.Mul(a, b)
	case flip:
		return matm.Flip(a)
	case sum:
		return matm.Sum(a, int(k))
	case all:
		return withoutSides(matm.All(a))
	case mean:
		return withoutSides(matm.Mean(a))
	case bend:
		return act.All(int(k), a)
	case row:
		return conv.Row(a, b, int(k))
	case pool:
		pooled, _, err := conv.Pool(a, int(k))
		return pooled, err
	case shape:
		return tens.Reshape(a, []int{len(a.V)})
	}
	return api.Tensor{}, api.EARG
}

// withoutSides tells one number as a tensor, unless there was an error.
func withoutSides(v api.Fix, err api.Errno) (api.Tensor, api.Errno) {
	if err != api.OK {
		return api.Tensor{}, err
	}
	return tens.New(nil, v)
}
