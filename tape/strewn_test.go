package tape_test

import (
	"fmt"
	"math/rand"
	"slices"
	"testing"

	"carousel/act"
	"carousel/api"
	"carousel/conv"
	"carousel/matm"
	"carousel/tape"
	"carousel/tens"
)

// must tells what a Do has to answer on a tape of these nodes: the chapter's table, by the calls
// of the packages that it names.
func must(nodes []tape.Node, op, a, b int, k api.Fix) (tape.Node, api.Errno) {
	there := func(n int) bool { return n >= 0 && n < len(nodes) }
	two := slices.Contains(opsOfTwo(), op)
	switch {
	case len(nodes) >= api.MaxOps:
		return tape.Node{}, api.ELIMIT
	case !two && !slices.Contains(opsOfOne(), op), !there(a), two && !there(b):
		return tape.Node{}, api.EARG
	}
	n := tape.Node{Op: op, A: a, B: -1}
	x, y := nodes[a].T, api.Tensor{}
	if two {
		n.B, y = b, nodes[b].T
	}
	if slices.Contains(opsWithK(), op) {
		n.K = k
	}
	alone := func(v api.Fix, err api.Errno) (api.Tensor, api.Errno) { return number(v), err }
	unplaced := func(t api.Tensor, _ []int, err api.Errno) (api.Tensor, api.Errno) { return t, err }
	var err api.Errno
	n.T, err = map[int]func() (api.Tensor, api.Errno){
		2:  func() (api.Tensor, api.Errno) { return tens.Add(x, y) },
		3:  func() (api.Tensor, api.Errno) { return tens.Sub(x, y) },
		4:  func() (api.Tensor, api.Errno) { return tens.Mul(x, y) },
		5:  func() (api.Tensor, api.Errno) { return tens.Scale(x, k) },
		6:  func() (api.Tensor, api.Errno) { return matm.Mul(x, y) },
		7:  func() (api.Tensor, api.Errno) { return matm.Flip(x) },
		8:  func() (api.Tensor, api.Errno) { return matm.Sum(x, int(k)) },
		9:  func() (api.Tensor, api.Errno) { return alone(matm.All(x)) },
		10: func() (api.Tensor, api.Errno) { return alone(matm.Mean(x)) },
		11: func() (api.Tensor, api.Errno) { return act.All(int(k), x) },
		12: func() (api.Tensor, api.Errno) { return conv.Row(x, y, int(k)) },
		13: func() (api.Tensor, api.Errno) { return unplaced(conv.Pool(x, int(k))) },
		14: func() (api.Tensor, api.Errno) { return line(x.V...), api.OK },
	}[op]()
	return n, err
}

func TestEachOpOfManyTensors(t *testing.T) {
	all := someTensors()
	x := laidOut(t, all...)
	leaves := nodesOf(t, x)
	for op := 2; op <= 14; op++ {
		for a := range all {
			for b := range all {
				if len(all[a].V)*len(all[b].V) > 1<<20 && (op == 6 || op == 12) {
					continue
				}
				if b > 0 && !slices.Contains(opsOfTwo(), op) {
					break
				}
				for _, k := range []api.Fix{0, 1, 2, 3, 5, 64, half} {
					holdDo(t, laidOut(t, all[a], all[b]), []tape.Node{leaves[a], leaves[b]}, op, 0, 1, k)
				}
			}
		}
	}
}

// holdDo holds a Do against what it must answer, and tells the nodes from then on.
func holdDo(t *testing.T, x *tape.Tape, nodes []tape.Node, op, a, b int, k api.Fix) []tape.Node {
	t.Helper()
	wanted, wantedErr := must(nodes, op, a, b, k)
	at := 0
	if wantedErr == api.OK {
		at = len(nodes)
		nodes = append(nodes, wanted)
	}
	what := fmt.Sprintf("Do(%d, %d, %d, %d) on %d nodes", op, a, b, k, x.Len())
	if n, err := x.Do(op, a, b, k); n != at || err != wantedErr {
		t.Fatalf("P10.1: %s: %d, %d, want %d, %d", what, n, err, at, wantedErr)
	}
	if x.Len() != len(nodes) {
		t.Fatalf("P10.1: %s: %d nodes, want %d", what, x.Len(), len(nodes))
	}
	if last, ok := x.At(x.Len() - 1); !ok || !alikeNodes(last, nodes[len(nodes)-1]) {
		t.Fatalf("P10.1: %s: the last is %v, %t, want %v", what, short(last), ok, short(nodes[len(nodes)-1]))
	}
	return nodes
}

// Whole tapes are held against what they must be, whatever was asked of them on the way.
func TestStrewnTapes(t *testing.T) {
	r := rand.New(rand.NewSource(3))
	shapes := [][]int{nil, {1}, {2}, {3}, {1, 3}, {2, 3}, {3, 2}, {2, 2}, {1, 2, 2}, {2, 2, 1}, {2, 1, 2, 2}}
	for range 300 {
		x := tape.New()
		var nodes []tape.Node
		for range 4 {
			a := strewn(r, shapes[r.Intn(len(shapes))]...)
			x.Leaf(a)
			nodes = append(nodes, tape.Node{Op: 1, A: -1, B: -1, T: a})
		}
		for range 120 {
			k := api.Fix(r.Intn(8) - 1)
			if r.Intn(3) == 0 {
				k = strewn(r).V[0]
			}
			nodes = holdDo(t, x, nodes, r.Intn(15)+1, r.Intn(len(nodes)+2)-1, r.Intn(len(nodes)+2)-1, k)
		}
		holds(t, "a strewn tape", x, nodes)
	}
}

func TestStrewnUpToTheLimit(t *testing.T) {
	r := rand.New(rand.NewSource(4))
	x := laidOut(t, strewn(r, 2, 3), strewn(r, 3, 2), strewn(r, 3))
	nodes := nodesOf(t, x)
	for range 5000 {
		nodes = holdDo(t, x, nodes, r.Intn(16), r.Intn(len(nodes)+1)-1, r.Intn(len(nodes)+1), api.Fix(r.Intn(6)))
	}
	if len(nodes) != api.MaxOps {
		t.Errorf("the tape has %d nodes, and has not come to its limit", len(nodes))
	}
	holds(t, "a tape at its limit", x, nodes)
}
