package back_test

import (
	"fmt"
	"math/rand"
	"testing"

	"carousel/api"
	"carousel/tape"
)

// strewnTape has leaves, and many Ops of many nodes. An Op that few nodes fit is tried again and again.
func strewnTape(r *rand.Rand, leaves, ops int) *tape.Tape {
	shapes := [][]int{nil, {1}, {2}, {3}, {1, 1}, {1, 3}, {3, 1}, {2, 3}, {3, 2}, {2, 2}, {1, 2, 2}, {2, 2, 1}, {1, 1, 2}, {2, 1, 2, 2}}
	x := tape.New()
	for range leaves {
		x.Leaf(strewn(r, shapes[r.Intn(len(shapes))]...))
	}
	for range ops {
		op, err := r.Intn(13)+2, api.EARG
		for tries := 0; tries < 100 && err != api.OK; tries++ {
			k := api.Fix(r.Intn(5))
			if op == 5 {
				k = strewn(r).V[0]
			}
			_, err = x.Do(op, r.Intn(x.Len()), r.Intn(x.Len()), k)
		}
	}
	return x
}

func TestOneOfStrewnTapes(t *testing.T) {
	r := rand.New(rand.NewSource(1))
	tried := map[int]int{}
	for range 200 {
		x := strewnTape(r, 8, 50)
		nodes := nodesOf(x)
		for n, node := range nodes {
			a, _ := x.Value(node.A)
			b, _ := x.Value(node.B)
			for range 2 {
				g := strewn(r, node.T.Dims...)
				forA, forB := mustGive(node, a, b, g)
				gives(t, fmt.Sprintf("Op %d of %v and %v by %d", node.Op, short(a), short(b), node.K), x, n, g, forA, forB)
			}
			tried[node.Op]++
		}
		if t.Failed() {
			return
		}
	}
	for op := 1; op <= 14; op++ {
		if tried[op] < 100 {
			t.Errorf("Op %d is tried %d times", op, tried[op])
		}
	}
}

func TestSweepsOfStrewnTapes(t *testing.T) {
	r := rand.New(rand.NewSource(2))
	swept := 0
	for range 200 {
		x := strewnTape(r, 8, 60)
		nodes := nodesOf(x)
		for n, node := range nodes {
			if len(node.T.V) != 1 {
				sweepsNothing(t, "a strewn tape", x, n, api.ESHAPE)
				continue
			}
			sweeps(t, "a strewn tape", x, n, mustSweep(nodes, n)...)
			swept++
		}
		if t.Failed() {
			return
		}
	}
	if swept < 2000 {
		t.Errorf("only %d roots are swept", swept)
	}
}

// Tensors at MaxSize, in each Op.
func TestGreatTensors(t *testing.T) {
	r := rand.New(rand.NewSource(3))
	for _, c := range []struct {
		op   int
		a, b []int
		k    api.Fix
	}{
		{2, []int{4096}, []int{1}, 0}, {3, []int{64, 1}, []int{64}, 0}, {4, []int{8, 8, 8, 8}, []int{8, 1, 8}, 0}, {5, []int{4096}, nil, 3 * half},
		{6, []int{64, 64}, []int{64, 64}, 0}, {6, []int{1, 4096}, []int{4096, 1}, 0}, {6, []int{4096, 1}, []int{1, 1}, 0}, {7, []int{32, 128}, nil, 0},
		{8, []int{8, 8, 8, 8}, nil, 1}, {8, []int{4096}, nil, 0}, {8, []int{64, 64}, nil, 1}, {9, []int{16, 256}, nil, 0}, {10, []int{4096}, nil, 0}, {10, []int{4095}, nil, 0},
		{11, []int{2, 2048}, nil, 2}, {12, []int{1, 4096}, []int{1, 1, 64}, 64}, {12, []int{16, 256}, []int{16, 16, 16}, 3}, {13, []int{3, 1365}, nil, 4}, {14, []int{64, 64}, nil, 0},
	} {
		x := laidOut(t, strewn(r, c.a...), strewn(r, c.b...))
		n := done(t, x, c.op, 0, 1, c.k)
		node, _ := x.At(n)
		a, _ := x.Value(0)
		b, _ := x.Value(1)
		g := strewn(r, node.T.Dims...)
		forA, forB := mustGive(node, a, b, g)
		gives(t, fmt.Sprintf("Op %d of %v and %v by %d", c.op, c.a, c.b, c.k), x, n, g, forA, forB)
	}
}
