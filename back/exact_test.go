package back_test

import (
	"math/big"
	"slices"

	"carousel/api"
	"carousel/tape"
)

// What follows reckons place by place, in whole numbers without bounds, with no call of any layer:
// the chapters' words once more, in another way.

func whole(v api.Fix) *big.Int { return big.NewInt(int64(v)) }

func times(a, b api.Fix) *big.Int { return new(big.Int).Mul(whole(a), whole(b)) }

// hold tells a whole number, held at the bounds.
func hold(v *big.Int) api.Fix {
	switch {
	case v.Cmp(whole(top)) > 0:
		return top
	case v.Cmp(whole(low)) < 0:
		return low
	}
	return api.Fix(v.Int64())
}

// over tells v by n, which is above 0, to the nearest, of two as near to the even one.
func over(v *big.Int, n int64) *big.Int {
	// Twice v and n over twice n is v by n and a half: rounded down, it is at most a half too great.
	twice := new(big.Int).Add(new(big.Int).Lsh(v, 1), big.NewInt(n))
	down, rest := new(big.Int).DivMod(twice, big.NewInt(2*n), new(big.Int))
	if rest.Sign() == 0 && down.Bit(0) == 1 {
		down.Sub(down, big.NewInt(1))
	}
	return down
}

func fixed(products *big.Int) api.Fix { return hold(over(products, 1<<32)) }

func plus(a, b api.Fix) api.Fix { return hold(new(big.Int).Add(whole(a), whole(b))) }

// placesOf counts through a shape, the last place fastest.
func placesOf(d []int) [][]int {
	all := [][]int{nil}
	for _, side := range d {
		var longer [][]int
		for _, p := range all {
			for i := range side {
				longer = append(longer, append(slices.Clone(p), i))
			}
		}
		all = longer
	}
	return all
}

// cell is where in the row a place is, of a shape that spreads to the place's.
func cell(d, place []int) int {
	at := 0
	for i, side := range d {
		at = at*side + place[len(place)-len(d)+i]%side
	}
	return at
}

// foldedTo sums what reckon tells of each of g's places.
func foldedTo(g api.Tensor, d []int, reckon func(i int, place []int) api.Fix) api.Tensor {
	t := filled(0, d...)
	for i, p := range placesOf(g.Dims) {
		t.V[cell(d, p)] = plus(t.V[cell(d, p)], reckon(i, p))
	}
	return t
}

// summed fills a shape with sums of products, each rounded once.
func summed(d []int, add func(sums []*big.Int)) api.Tensor {
	t := filled(0, d...)
	sums := make([]*big.Int, len(t.V))
	for i := range sums {
		sums[i] = new(big.Int)
	}
	add(sums)
	for i := range sums {
		t.V[i] = fixed(sums[i])
	}
	return t
}

// mustGive tells what One has to answer.
func mustGive(n tape.Node, a, b, g api.Tensor) (forA, forB api.Tensor) {
	switch n.Op {
	case 2, 3, 4:
		return mustGiveEach(n.Op, a, b, g)
	case 6:
		return mustGiveMatmul(a, b, g)
	case 12:
		return mustGiveRow(a, b, g, int(n.K))
	case 13:
		return mustGivePool(a, g, int(n.K)), api.Tensor{}
	case 1:
		return api.Tensor{}, api.Tensor{}
	}
	forA = filled(0, a.Dims...)
	for i, p := range placesOf(a.Dims) {
		switch n.Op {
		case 5:
			forA.V[i] = fixed(times(g.V[i], n.K))
		case 7:
			forA.V[i] = g.V[p[1]*a.Dims[0]+p[0]]
		case 8:
			side := int(n.K)
			forA.V[i] = g.V[cell(slices.Delete(slices.Clone(a.Dims), side, side+1), slices.Delete(slices.Clone(p), side, side+1))]
		case 9:
			forA.V[i] = g.V[0]
		case 10:
			forA.V[i] = hold(over(whole(g.V[0]), int64(len(a.V))))
		case 11:
			forA.V[i] = fixed(times(g.V[i], steepness(int(n.K), a.V[i])))
		case 14:
			forA.V[i] = g.V[i]
		}
	}
	return forA, api.Tensor{}
}

func mustGiveEach(op int, a, b, g api.Tensor) (forA, forB api.Tensor) {
	forA = foldedTo(g, a.Dims, func(i int, p []int) api.Fix {
		if op == 4 {
			return fixed(times(g.V[i], b.V[cell(b.Dims, p)]))
		}
		return g.V[i]
	})
	forB = foldedTo(g, b.Dims, func(i int, p []int) api.Fix {
		switch op {
		case 3:
			return hold(new(big.Int).Neg(whole(g.V[i])))
		case 4:
			return fixed(times(g.V[i], a.V[cell(a.Dims, p)]))
		}
		return g.V[i]
	})
	return forA, forB
}

// mustGiveMatmul goes over all products of which the matrices' product was made.
func mustGiveMatmul(a, b, g api.Tensor) (forA, forB api.Tensor) {
	rows, inner, columns := a.Dims[0], a.Dims[1], b.Dims[1]
	each := func(meet func(inA, inB, inG int)) {
		for _, p := range placesOf([]int{rows, inner, columns}) {
			meet(p[0]*inner+p[1], p[1]*columns+p[2], p[0]*columns+p[2])
		}
	}
	forA = summed(a.Dims, func(sums []*big.Int) {
		each(func(inA, inB, inG int) { sums[inA].Add(sums[inA], times(g.V[inG], b.V[inB])) })
	})
	forB = summed(b.Dims, func(sums []*big.Int) {
		each(func(inA, inB, inG int) { sums[inB].Add(sums[inB], times(g.V[inG], a.V[inA])) })
	})
	return forA, forB
}

// mustGiveRow goes over all numbers that windows met.
func mustGiveRow(a, b, g api.Tensor, step int) (forA, forB api.Tensor) {
	each := func(meet func(inA, inB, inG int)) {
		for _, p := range placesOf([]int{g.Dims[0], a.Dims[0], g.Dims[1], b.Dims[2]}) {
			o, c, n, w := p[0], p[1], p[2], p[3]
			meet(c*a.Dims[1]+n*step+w, (o*a.Dims[0]+c)*b.Dims[2]+w, o*g.Dims[1]+n)
		}
	}
	forA = summed(a.Dims, func(sums []*big.Int) {
		each(func(inA, inB, inG int) { sums[inA].Add(sums[inA], times(g.V[inG], b.V[inB])) })
	})
	forB = summed(b.Dims, func(sums []*big.Int) {
		each(func(inA, inB, inG int) { sums[inB].Add(sums[inB], times(g.V[inG], a.V[inA])) })
	})
	return forA, forB
}

func mustGivePool(a, g api.Tensor, wide int) api.Tensor {
	t := filled(0, a.Dims...)
	for i, p := range placesOf(g.Dims) {
		best := p[0]*a.Dims[1] + p[1]*wide
		for at := best; at < p[0]*a.Dims[1]+(p[1]+1)*wide; at++ {
			if a.V[at] > a.V[best] {
				best = at
			}
		}
		t.V[best] = g.V[i]
	}
	return t
}

func steepness(kind int, x api.Fix) api.Fix {
	within := x > -one && x < one
	switch {
	case kind <= 2 && x > 0, kind == 3 && within, kind == 4 && x > 0:
		return one
	case kind == 2:
		return one / 8
	case kind == 4 && x < 0:
		return -one
	case kind == 5 && within:
		return half
	}
	return 0
}

// mustSweep tells what Sweep has to answer of a root of one number.
func mustSweep(nodes []tape.Node, root int) []api.Tensor {
	gradients := make([]api.Tensor, root+1)
	for n := range gradients {
		gradients[n] = filled(0, nodes[n].T.Dims...)
	}
	gradients[root].V[0] = one
	tensorOf := func(n int) api.Tensor {
		if n < 0 {
			return api.Tensor{}
		}
		return nodes[n].T
	}
	for n := root; n >= 0; n-- {
		// Noughts come to noughts: so here each node gives, whatever it was given.
		forA, forB := mustGive(nodes[n], tensorOf(nodes[n].A), tensorOf(nodes[n].B), gradients[n])
		for i, v := range forA.V {
			gradients[nodes[n].A].V[i] = plus(gradients[nodes[n].A].V[i], v)
		}
		for i, v := range forB.V {
			gradients[nodes[n].B].V[i] = plus(gradients[nodes[n].B].V[i], v)
		}
	}
	return gradients
}
