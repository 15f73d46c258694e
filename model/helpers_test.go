package model_test

import (
	"math"
	"math/rand"
	"slices"
	"testing"

	"carousel/api"
	"carousel/model"
	"carousel/tape"
)

const one = api.One

type layers = []model.Layer

func dense(n int) model.Layer   { return model.Layer{Kind: "dense", A: n} }
func conv(o, w int) model.Layer { return model.Layer{Kind: "conv", A: o, B: w} }
func pool(w int) model.Layer    { return model.Layer{Kind: "pool", A: w} }
func bend(k int) model.Layer    { return model.Layer{Kind: "bend", A: k} }
func skip() model.Layer         { return model.Layer{Kind: "skip"} }

// row is a net that takes a row of n, rows one that takes c rows of l.
func row(n int, l ...model.Layer) model.Net     { return model.Net{In: []int{n}, Layers: l} }
func rows(c, l int, x ...model.Layer) model.Net { return model.Net{In: []int{c, l}, Layers: x} }

// again is a layer so many times.
func again(many int, l model.Layer) layers { return slices.Repeat(layers{l}, many) }

func alikeNets(a, b model.Net) bool {
	return slices.Equal(a.In, b.In) && slices.Equal(a.Layers, b.Layers)
}

func alikeShapes(a, b [][]int) bool { return slices.EqualFunc(a, b, slices.Equal[[]int]) }

func alike(a, b api.Tensor) bool { return slices.Equal(a.Dims, b.Dims) && slices.Equal(a.V, b.V) }

func alikeNodes(a, b tape.Node) bool {
	return a.Op == b.Op && a.A == b.A && a.B == b.B && a.K == b.K && alike(a.T, b.T)
}

// short leaves out of a text what nobody would read.
func short(s string) string {
	if len(s) <= 120 {
		return s
	}
	return s[:100] + " .. " + s[len(s)-16:]
}

func shortNode(n tape.Node) tape.Node {
	n.T = api.Tensor{Dims: n.T.Dims, V: n.T.V[:min(len(n.T.V), 16)]}
	return n
}

func shortLayers(n model.Net) model.Net {
	return model.Net{In: n.In[:min(len(n.In), 6)], Layers: n.Layers[:min(len(n.Layers), 20)]}
}

// parsed asks for a net, and nothing else.
func parsed(t *testing.T, text string, wanted model.Net) {
	t.Helper()
	if n, err := model.Parse(text); err != api.OK || !alikeNets(n, wanted) {
		t.Errorf("P12.1: Parse(%q): %v, %d, want %v", short(text), shortLayers(n), err, shortLayers(wanted))
	}
}

// unparsed asks for an error, and for nothing beside it.
func unparsed(t *testing.T, text string, wanted api.Errno) {
	t.Helper()
	if n, err := model.Parse(text); err != wanted || len(n.In)+len(n.Layers) != 0 {
		t.Errorf("P12.1: Parse(%q): %v, %d, want none, %d", short(text), shortLayers(n), err, wanted)
	}
}

// net is one that is known to be good.
func net(t *testing.T, text string) model.Net {
	t.Helper()
	n, err := model.Parse(text)
	if err != api.OK {
		t.Fatalf("P12.1: Parse(%q): %d", text, err)
	}
	return n
}

// shaped asks for shapes, and for a net that Params and Text take too.
func shaped(t *testing.T, n model.Net, wanted ...[]int) {
	t.Helper()
	if d, err := model.Shapes(n); err != api.OK || !alikeShapes(d, wanted) {
		t.Errorf("P12.1: Shapes(%v): %v, %d, want %v", shortLayers(n), d, err, wanted)
	}
	if _, err := model.Params(n); err != api.OK {
		t.Errorf("P12.1: Params(%v): %d", shortLayers(n), err)
	}
	if model.Text(n) == "" {
		t.Errorf("P12.1: Text(%v): nothing", shortLayers(n))
	}
}

// unshaped asks all calls for the same error, for nothing beside it, and for a tape as it was.
func unshaped(t *testing.T, n model.Net, wanted api.Errno) {
	t.Helper()
	if d, err := model.Shapes(n); err != wanted || len(d) != 0 {
		t.Errorf("P12.1: Shapes(%v): %v, %d, want none, %d", shortLayers(n), d, err, wanted)
	}
	if v, err := model.Params(n); err != wanted || v != 0 {
		t.Errorf("P12.1: Params(%v): %d, %d, want 0, %d", shortLayers(n), v, err, wanted)
	}
	if s := model.Text(n); s != "" {
		t.Errorf("P12.1: Text(%v): %q, want nothing", shortLayers(n), short(s))
	}
	x := tape.New()
	x.Leaf(api.Tensor{V: []api.Fix{7}})
	for _, p := range [][]api.Fix{nil, {1}, make([]api.Fix, 12)} {
		if out, params, err := model.Run(x, n, p, []api.Fix{1, 2}); err != wanted || out != 0 || len(params) != 0 || x.Len() != 1 {
			t.Errorf("P12.2: Run(%v): %d, %v, %d, want 0, none, %d; %d nodes, want 1", shortLayers(n), out, params, err, wanted, x.Len())
		}
	}
}

// counted has 1, 2, 3 and so on, each so many parts: no two of its places are alike.
func counted(many int, parts api.Fix) []api.Fix {
	v := make([]api.Fix, many)
	for i := range v {
		v[i] = api.Fix(i+1) * parts
	}
	return v
}

func whole(v ...int64) []api.Fix {
	l := make([]api.Fix, len(v))
	for i := range v {
		l[i] = api.Fix(v[i]) * one
	}
	return l
}

// strewn has numbers of all sizes, the bounds among them, the same in every run.
func strewn(r *rand.Rand, many int) []api.Fix {
	v := make([]api.Fix, many)
	for i := range v {
		v[i] = api.Fix(r.Uint64()) >> r.Intn(64)
		if r.Intn(12) == 0 {
			v[i] = []api.Fix{api.Top, api.Low, 0, one, -one}[r.Intn(5)]
		}
	}
	return v
}

func sizeOf(d []int) int {
	size := 1
	for _, side := range d {
		size *= side
	}
	return size
}

// tapeOf has so many nodes, all of them small.
func tapeOf(t *testing.T, many int) *tape.Tape {
	t.Helper()
	x := tape.New()
	for range many {
		if _, err := x.Leaf(api.Tensor{V: []api.Fix{5}}); err != api.OK {
			t.Fatalf("Leaf: %d", err)
		}
	}
	return x
}

func nodesOf(x *tape.Tape) []tape.Node {
	all := make([]tape.Node, x.Len())
	for i := range all {
		all[i], _ = x.At(i)
	}
	return all
}

// holds asks for a tape of just these nodes.
func holds(t *testing.T, what string, x *tape.Tape, wanted []tape.Node) {
	t.Helper()
	got := nodesOf(x)
	if len(got) != len(wanted) {
		t.Errorf("P12.2: %s: %d nodes, want %d", what, len(got), len(wanted))
		return
	}
	for i := range got {
		if !alikeNodes(got[i], wanted[i]) {
			t.Errorf("P12.2: %s: node %d is %v, want %v", what, i, shortNode(got[i]), shortNode(wanted[i]))
			return
		}
	}
}

// farNumbers are no number of any layer; most would be one, if only some of their bits were taken.
func farNumbers() []int {
	return []int{-1, -2, -16, -256, -1024, math.MinInt, math.MinInt + 1, math.MinInt + 2, 1025, 4097, 9999, 10000, 1<<16 + 1, 1<<32 + 1, 1<<32 + 2, -1<<32 + 1, 1 << 40, 1<<62 + 1, math.MaxInt}
}

// nth puts a layer at the n-th place among others of kind bend.
func nth(many, at int, l model.Layer) layers {
	all := again(many, bend(1))
	all[at] = l
	return all
}
