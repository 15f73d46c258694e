package tens

import (
	"slices"

	"carousel/api"
	"carousel/fix"
	"carousel/shape"
)

// Add adds.
func Add(a, b api.Tensor) (api.Tensor, api.Errno) { return each(a, b, fix.Add) }

// Sub takes away.
func Sub(a, b api.Tensor) (api.Tensor, api.Errno) { return each(a, b, fix.Sub) }

// Mul multiplies, number by number.
func Mul(a, b api.Tensor) (api.Tensor, api.Errno) { return each(a, b, fix.Mul) }

// Fold sums what is spread.
func Fold(a api.Tensor, d []int) (api.Tensor, api.Errno) {
	if !Good(a) || !shape.Good(d) {
		return api.Tensor{}, api.EARG
	}
	// Whatever error Join answers, ELIMIT too, it tells no more than that d does not spread to a's shape.
	if both, err := shape.Join(d, a.Dims); err != api.OK || !shape.Same(both, a.Dims) {
		return api.Tensor{}, api.ESHAPE
	}
	sums := make([]api.Fix, shape.Size(d))
	for i, from := range spread(d, a.Dims) {
		sums[from] = fix.Add(sums[from], a.V[i])
	}
	return api.Tensor{Dims: slices.Clone(d), V: sums}, api.OK
}

// each spreads both and reckons number by number.
func each(a, b api.Tensor, reckon func(a, b api.Fix) api.Fix) (api.Tensor, api.Errno) {
	if !Good(a) || !Good(b) {
		return api.Tensor{}, api.EARG
	}
	d, err := shape.Join(a.Dims, b.Dims)
	if err != api.OK {
		return api.Tensor{}, err
	}
	v := make([]api.Fix, shape.Size(d))
	fromA, fromB := spread(a.Dims, d), spread(b.Dims, d)
	for i := range v {
		v[i] = reckon(a.V[fromA[i]], b.V[fromB[i]])
	}
	return api.Tensor{Dims: d, V: v}, api.OK
}

// spread tells, for each number of shape big in its order, which one of shape d is spread there, as
// shape's From does place by place. d must spread to big.
func spread(d, big []int) []int {
	// Along a side that d has not, or has as a 1, one stays where one is.
	steps := make([]int, len(big))
	ahead := len(big) - len(d)
	for i, stride := range shape.Strides(d) {
		if d[i] > 1 {
			steps[ahead+i] = stride
		}
	}
	return walk(big, steps)
}

// walk goes through shape d in its order, and tells where in the row it comes to, if a step along
// each side goes so far.
func walk(d, steps []int) []int {
	row := []int{0}
	for i, side := range d {
		longer := make([]int, 0, len(row)*side)
		for _, at := range row {
			for n := range side {
				longer = append(longer, at+n*steps[i])
			}
		}
		row = longer
	}
	return row
}
