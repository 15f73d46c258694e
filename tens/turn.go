package tens

import (
	"carousel/api"
	"carousel/shape"
)

// Turn lets its sides change places.
func Turn(a api.Tensor, order []int) (api.Tensor, api.Errno) {
	if !Good(a) || !eachOnce(order, len(a.Dims)) {
		return api.Tensor{}, api.EARG
	}
	strides := shape.Strides(a.Dims)
	d, steps := make([]int, len(order)), make([]int, len(order))
	for i, side := range order {
		d[i], steps[i] = a.Dims[side], strides[side]
	}
	v := make([]api.Fix, len(a.V))
	for i, from := range walk(d, steps) {
		v[i] = a.V[from]
	}
	return api.Tensor{Dims: d, V: v}, api.OK
}

// eachOnce tells whether order names each number from 0 up to n, without n, once.
func eachOnce(order []int, n int) bool {
	if len(order) != n {
		return false
	}
	named := make([]bool, n)
	for _, side := range order {
		if side < 0 || side >= n || named[side] {
			return false
		}
		named[side] = true
	}
	return true
}
