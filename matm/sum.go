package matm

import (
	"carousel/api"
	"carousel/tens"
	"carousel/wide"
)

// Sum sums along a side.
func Sum(a api.Tensor, side int) (api.Tensor, api.Errno) {
	// With that side as the last one, the numbers of each sum stand next to each other. Turn refuses
	// what is no tensor, and an order with a side that there is not.
	turned, err := tens.Turn(a, sideLast(len(a.Dims), side))
	if err != api.OK {
		return api.Tensor{}, err
	}
	long := a.Dims[side]
	sums := make([]api.Fix, len(a.V)/long)
	for i := range sums {
		sums[i] = wide.Fix(total(turned.V[i*long : (i+1)*long]))
	}
	return api.Tensor{Dims: turned.Dims[:len(a.Dims)-1], V: sums}, api.OK
}

// All sums all.
func All(a api.Tensor) (api.Fix, api.Errno) {
	if !tens.Good(a) {
		return 0, api.EARG
	}
	return wide.Fix(total(a.V)), api.OK
}

// Mean tells their mean.
func Mean(a api.Tensor) (api.Fix, api.Errno) {
	if !tens.Good(a) {
		return 0, api.EARG
	}
	return wide.Over(total(a.V), int64(len(a.V))), api.OK
}

// total sums exactly: a tensor has too few numbers for a Wide to wrap round.
func total(v []api.Fix) api.Wide {
	var sum api.Wide
	for _, n := range v {
		sum = wide.Add(sum, wide.Of(int64(n)))
	}
	return sum
}

// sideLast tells the order of so many sides in which that one comes last, and the others stay.
func sideLast(sides, side int) []int {
	order := make([]int, 0, sides)
	for i := range sides {
		if i != side {
			order = append(order, i)
		}
	}
	return append(order, side)
}
