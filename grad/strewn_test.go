package grad_test

import (
	"fmt"
	"math/big"
	"math/rand"
	"slices"
	"testing"

	"carousel/api"
	"carousel/back"
	"carousel/grad"
	"carousel/loss"
	"carousel/model"
	"carousel/tape"
)

// mustOf tells the chapter's words once more, and asks the layers below in their order.
func mustOf(n model.Net, kind int, p []api.Fix, e grad.Example) (row []api.Fix, far api.Fix, err api.Errno) {
	if kind != square && kind != size && kind != hinge {
		return nil, 0, api.EARG
	}
	x := tape.New()
	out, params, err := model.Run(x, n, p, e.X)
	if err != api.OK {
		return nil, 0, err
	}
	var root int
	switch kind {
	case square:
		root, err = loss.Square(x, out, e.Y)
	case size:
		root, err = loss.Size(x, out, e.Y)
	default:
		root, err = loss.Hinge(x, out, e.Class)
	}
	if err != api.OK {
		return nil, 0, err
	}
	swept, err := back.Sweep(x, root)
	for _, at := range params {
		row = slices.Concat(row, swept[at].V)
	}
	v, _ := x.Value(root)
	return row, v.V[0], err
}

// mustSum sums in whole numbers without bounds.
func mustSum(n model.Net, kind int, p []api.Fix, l []grad.Example) ([]api.Wide, api.Wide, api.Errno) {
	many, err := model.Params(n)
	if len(l) == 0 && err != api.OK {
		return nil, api.Wide{}, err
	}
	sums, far := make([]*big.Int, many), new(big.Int)
	for i := range sums {
		sums[i] = new(big.Int)
	}
	for _, e := range l {
		row, v, err := mustOf(n, kind, p, e)
		if err != api.OK {
			return nil, api.Wide{}, err
		}
		for i := range row {
			sums[i].Add(sums[i], parts(row[i]))
		}
		far.Add(far, parts(v))
	}
	told := make([]api.Wide, many)
	for i := range told {
		told[i] = wideOf(sums[i])
	}
	return told, wideOf(far), api.OK
}

// strewnNet has numbers that mostly may be, and layers that mostly fit.
func strewnNet(r *rand.Rand) model.Net {
	small := func(top int) int { return []int{1, 1, 2, 2, 3, 4, r.Intn(top) + 1}[r.Intn(7)] }
	n := row(small(12))
	if r.Intn(3) > 0 {
		n = rows(small(4), small(12))
	}
	for range r.Intn(6) {
		all := []layer{dense(small(8)), conv(small(4), small(3)), pool(small(3)), bend(r.Intn(5) + 1), bend(r.Intn(5) + 1), skip()}
		n.Layers = append(n.Layers, all[r.Intn(len(all))])
	}
	if r.Intn(4) > 0 {
		n.Layers = append(n.Layers, dense(small(6)))
	}
	return n
}

// nearly is so many, but now and then one more or less.
func nearly(r *rand.Rand, many int) int {
	if r.Intn(25) == 0 {
		return max(many+2*r.Intn(2)-1, 0)
	}
	return many
}

// strewnExample mostly fits the net.
func strewnExample(r *rand.Rand, n model.Net) grad.Example {
	wanted := 1
	if shapes, err := model.Shapes(n); err == api.OK {
		wanted = sizeOf(shapes[len(shapes)-1])
	}
	return grad.Example{X: strewn(r, nearly(r, sizeOf(n.In))), Y: strewn(r, nearly(r, wanted)), Class: nearly(r, r.Intn(wanted))}
}

func TestStrewnExamples(t *testing.T) {
	r := rand.New(rand.NewSource(1))
	seen := map[api.Errno]int{}
	for range 20000 {
		n, kind := strewnNet(r), nearly(r, r.Intn(3)+1)
		many, _ := model.Params(n)
		p, e := strewn(r, nearly(r, many)), strewnExample(r, n)
		row, far, wanted := mustOf(n, kind, p, e)
		seen[wanted]++
		what := fmt.Sprintf("%v, kind %d, %v, %v", n, kind, p, e)
		if wanted == api.OK {
			reckons(t, what, n, kind, p, e, row, far)
		} else {
			refuses(t, what, n, kind, p, e, wanted)
		}
		if t.Failed() {
			return
		}
	}
	for _, err := range []api.Errno{api.OK, api.EARG, api.ESHAPE} {
		if seen[err] < 1000 {
			t.Errorf("of the examples only %d come to %d", seen[err], err)
		}
	}
}

func TestStrewnSums(t *testing.T) {
	r := rand.New(rand.NewSource(2))
	good := 0
	for range 4000 {
		n, kind := strewnNet(r), r.Intn(3)+1
		many, _ := model.Params(n)
		p := strewn(r, many)
		var l []grad.Example
		for range r.Intn(8) {
			l = append(l, strewnExample(r, n))
		}
		row, far, wanted := mustSum(n, kind, p, l)
		what := fmt.Sprintf("%v, kind %d, %v, %v", n, kind, p, l)
		if wanted == api.OK {
			good++
			sums(t, what, n, kind, p, l, row, far)
		} else {
			sumsNothing(t, what, n, kind, p, l, wanted)
		}
		if t.Failed() {
			return
		}
	}
	if good < 1000 {
		t.Errorf("only %d sums are good", good)
	}
}

func TestStrewnJoins(t *testing.T) {
	r := rand.New(rand.NewSource(3))
	one := func() api.Wide { return api.Wide{Hi: int64(r.Uint64()) >> r.Intn(64), Lo: r.Uint64() >> r.Intn(64)} }
	for range 5000 {
		many := r.Intn(6)
		var a, b, wanted []api.Wide
		for range many {
			x, y := one(), one()
			a, b, wanted = append(a, x), append(b, y), append(wanted, wideOf(new(big.Int).Add(bigOf(x), bigOf(y))))
		}
		joins(t, fmt.Sprint(a, b), a, b, wanted)
		if t.Failed() {
			return
		}
	}
}
