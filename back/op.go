package back

import (
	"slices"

	"carousel/act"
	"carousel/api"
	"carousel/conv"
	"carousel/matm"
	"carousel/tape"
	"carousel/tens"
)

// The tape's Ops, without the leaf, which gives nothing on.
const (
	add    = 2
	sub    = 3
	mul    = 4
	scale  = 5
	matmul = 6
	flip   = 7
	sum    = 8
	all    = 9
	mean   = 10
	bend   = 11
	row    = 12
	pool   = 13
	shape  = 14
)

// give tells what g, a gradient of the node's shape, gives for A and for B, in new memory.
func give(t *tape.Tape, n tape.Node, g api.Tensor) (api.Tensor, api.Tensor, api.Errno) {
	// Where there is no such node the tensor is empty, and the Op does not ask for it.
	a, _ := t.Value(n.A)
	b, _ := t.Value(n.B)
	forA, err := giveA(n, a, b, g)
	if err != api.OK {
		return api.Tensor{}, api.Tensor{}, err
	}
	forB, err := giveB(n, a, b, g)
	if err != api.OK {
		return api.Tensor{}, api.Tensor{}, err
	}
	return forA, forB, api.OK
}

// giveA tells what g gives for A: nothing at a leaf. Only scale takes K as the number that it stands
// for.
func giveA(n tape.Node, a, b, g api.Tensor) (api.Tensor, api.Errno) {
	switch n.Op {
	case add, sub:
		return tens.Fold(g, a.Dims)
	case mul:
		return timesFolded(g, b, a.Dims)
	case scale:
		return tens.Scale(g, n.K)
	case matmul:
		return timesFlipped(g, b)
	case flip:
		return matm.Flip(g)
	case sum:
		return spreadAlong(g, a.Dims, int(n.K))
	case all:
		return tens.New(a.Dims, g.V[0])
	case mean:
		return shared(g.V[0], a.Dims)
	case bend:
		return act.Back(int(n.K), a, g)
	case row:
		return conv.BackIn(g, b, int(n.K), a.Dims[1])
	case pool:
		return atPlaces(g, a, int(n.K))
	case shape:
		return tens.Reshape(g, a.Dims)
	}
	return api.Tensor{}, api.OK
}

// giveB tells what g gives for B: nothing where the Op is of one node.
func giveB(n tape.Node, a, b, g api.Tensor) (api.Tensor, api.Errno) {
	switch n.Op {
	case add:
		return tens.Fold(g, b.Dims)
	case sub:
		return awayFolded(g, b.Dims)
	case mul:
		return timesFolded(g, a, b.Dims)
	case matmul:
		return flippedTimes(a, g)
	case row:
		return conv.BackKernel(g, a, int(n.K), b.Dims[2])
	}
	return api.Tensor{}, api.OK
}

// timesFolded multiplies where the two meet, and folds that: rounded first, then summed.
func timesFolded(g, other api.Tensor, d []int) (api.Tensor, api.Errno) {
	product, err := tens.Mul(g, other)
	if err != api.OK {
		return api.Tensor{}, err
	}
	return tens.Fold(product, d)
}

// awayFolded turns each number's sign ahead of the sum: held, a sum's sign turned is another one.
func awayFolded(g api.Tensor, d []int) (api.Tensor, api.Errno) {
	away, err := tens.Scale(g, -api.One)
	if err != api.OK {
		return api.Tensor{}, err
	}
	return tens.Fold(away, d)
}

func timesFlipped(g, b api.Tensor) (api.Tensor, api.Errno) {
	flipped, err := matm.Flip(b)
	if err != api.OK {
		return api.Tensor{}, err
	}
	return matm.Mul(g, flipped)
}

func flippedTimes(a, g api.Tensor) (api.Tensor, api.Errno) {
	flipped, err := matm.Flip(a)
	if err != api.OK {
		return api.Tensor{}, err
	}
	return matm.Mul(flipped, g)
}

// spreadAlong tells g's numbers again and again along a side that shape d has, and g has not.
func spreadAlong(g api.Tensor, d []int, side int) (api.Tensor, api.Errno) {
	// With a side of 1 there g spreads to the whole: noughts added to it change no number.
	thin := slices.Clone(d)
	thin[side] = 1
	slice, err := tens.Reshape(g, thin)
	if err != api.OK {
		return api.Tensor{}, err
	}
	noughts, err := tens.New(d, 0)
	if err != api.OK {
		return api.Tensor{}, err
	}
	return tens.Add(slice, noughts)
}

// shared tells a tensor of shape d, all v by how many there are.
func shared(v api.Fix, d []int) (api.Tensor, api.Errno) {
	alone, err := tens.New(d, 0)
	if err != api.OK {
		return api.Tensor{}, err
	}
	// The mean of v and noughts is v by how many there are, rounded as wide's Over rounds.
	alone.V[0] = v
	part, err := matm.Mean(alone)
	if err != api.OK {
		return api.Tensor{}, err
	}
	return tens.New(d, part)
}

// atPlaces lays g's numbers where in a Pool found the greatest: all others had no part in it.
func atPlaces(g, a api.Tensor, wide int) (api.Tensor, api.Errno) {
	_, places, err := conv.Pool(a, wide)
	if err != api.OK {
		return api.Tensor{}, err
	}
	t, err := tens.New(a.Dims, 0)
	if err != api.OK {
		return api.Tensor{}, err
	}
	for i, at := range places {
		t.V[at] = g.V[i]
	}
	return t, api.OK
}
