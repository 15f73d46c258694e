package grad_test

import (
	"math"
	"math/big"
	"math/rand"
	"slices"
	"testing"

	"carousel/api"
	"carousel/grad"
	"carousel/model"
)

const (
	one  = api.One
	half = one / 2
	top  = api.Top
	low  = api.Low
)

// The kinds of losses.
const (
	square = 1
	size   = 2
	hinge  = 3
)

type layer = model.Layer

func whole(v ...int64) []api.Fix {
	l := make([]api.Fix, len(v))
	for i := range v {
		l[i] = api.Fix(v[i]) * one
	}
	return l
}

// eighths are so many eighths of one.
func eighths(v ...int64) []api.Fix {
	l := make([]api.Fix, len(v))
	for i := range v {
		l[i] = api.Fix(v[i]) * (one / 8)
	}
	return l
}

func toward(x, y []api.Fix) grad.Example        { return grad.Example{X: x, Y: y} }
func ofClass(x []api.Fix, c int) grad.Example   { return grad.Example{X: x, Class: c} }
func row(n int, l ...model.Layer) model.Net     { return model.Net{In: []int{n}, Layers: l} }
func rows(c, l int, x ...model.Layer) model.Net { return model.Net{In: []int{c, l}, Layers: x} }
func dense(n int) model.Layer                   { return model.Layer{Kind: "dense", A: n} }
func conv(o, w int) model.Layer                 { return model.Layer{Kind: "conv", A: o, B: w} }
func pool(w int) model.Layer                    { return model.Layer{Kind: "pool", A: w} }
func bend(k int) model.Layer                    { return model.Layer{Kind: "bend", A: k} }
func skip() model.Layer                         { return model.Layer{Kind: "skip"} }

// net is one that is known to be good.
func net(t *testing.T, text string) model.Net {
	t.Helper()
	n, err := model.Parse(text)
	if err != api.OK {
		t.Fatalf("Parse(%q): %d", text, err)
	}
	return n
}

func sizeOf(d []int) int {
	size := 1
	for _, side := range d {
		size *= side
	}
	return size
}

// short leaves out what nobody would read.
func short[T any](l []T) []T { return l[:min(len(l), 12)] }

// reckons asks Of for a row and a loss.
func reckons(t *testing.T, what string, n model.Net, kind int, p []api.Fix, e grad.Example, row []api.Fix, far api.Fix) {
	t.Helper()
	if g, v, err := grad.Of(n, kind, p, e); err != api.OK || !slices.Equal(g, row) || v != far {
		t.Errorf("P14.1: Of %s: %d numbers %v, %d, %d, want %d numbers %v, %d", what, len(g), short(g), v, err, len(row), short(row), far)
	}
}

// refuses asks Of, and Sum of that example alone and of it ahead of itself, for an error and for
// nothing beside it.
func refuses(t *testing.T, what string, n model.Net, kind int, p []api.Fix, e grad.Example, wanted api.Errno) {
	t.Helper()
	if g, v, err := grad.Of(n, kind, p, e); err != wanted || len(g) != 0 || v != 0 {
		t.Errorf("P14.1: Of %s: %v, %d, %d, want none, 0, %d", what, short(g), v, err, wanted)
	}
	sumsNothing(t, what, n, kind, p, []grad.Example{e}, wanted)
	sumsNothing(t, what, n, kind, p, []grad.Example{e, e}, wanted)
}

// sums asks Sum for a row and a loss.
func sums(t *testing.T, what string, n model.Net, kind int, p []api.Fix, l []grad.Example, row []api.Wide, far api.Wide) {
	t.Helper()
	if s, v, err := grad.Sum(n, kind, p, l); err != api.OK || !slices.Equal(s, row) || v != far {
		t.Errorf("P14.1: Sum %s: %d numbers %v, %v, %d, want %d numbers %v, %v", what, len(s), short(s), v, err, len(row), short(row), far)
	}
}

func sumsNothing(t *testing.T, what string, n model.Net, kind int, p []api.Fix, l []grad.Example, wanted api.Errno) {
	t.Helper()
	if s, v, err := grad.Sum(n, kind, p, l); err != wanted || len(s) != 0 || v != (api.Wide{}) {
		t.Errorf("P14.1: Sum %s: %v, %v, %d, want none, 0, %d", what, short(s), v, err, wanted)
	}
}

// parts are a Fix's own, as whole numbers without bounds.
func parts(v api.Fix) *big.Int { return big.NewInt(int64(v)) }

// wideOf tells a whole number as a Wide, modulo 2^128.
func wideOf(v *big.Int) api.Wide {
	m := new(big.Int).Mod(v, new(big.Int).Lsh(big.NewInt(1), 128))
	hi := new(big.Int).Rsh(m, 64)
	lo := new(big.Int).Sub(m, new(big.Int).Lsh(hi, 64))
	return api.Wide{Hi: int64(hi.Uint64()), Lo: lo.Uint64()}
}

// bigOf tells what a Wide stands for.
func bigOf(a api.Wide) *big.Int {
	hi := new(big.Int).Lsh(big.NewInt(a.Hi), 64)
	return hi.Add(hi, new(big.Int).SetUint64(a.Lo))
}

// wides are numbers' parts, so many times.
func wides(times int64, v ...api.Fix) []api.Wide {
	l := make([]api.Wide, len(v))
	for i := range v {
		l[i] = wideOf(new(big.Int).Mul(parts(v[i]), big.NewInt(times)))
	}
	return l
}

// strewn has numbers of all sizes, the bounds among them, the same in every run.
func strewn(r *rand.Rand, many int) []api.Fix {
	v := make([]api.Fix, many)
	for i := range v {
		v[i] = api.Fix(r.Uint64()) >> r.Intn(64)
		if r.Intn(12) == 0 {
			v[i] = []api.Fix{top, low, 0, one, -one}[r.Intn(5)]
		}
	}
	return v
}

// noKinds are none; most would be one, if only some of their bits were taken.
func noKinds() []int {
	return []int{0, 4, -1, -2, -3, -4, 5, 1<<8 + 1, 1<<16 + 2, 1<<32 + 1, 1<<32 + 3, -1<<32 + 2, 1<<62 + 1, math.MaxInt, math.MinInt, math.MinInt + 1}
}

// noPlaces are numbers of no place of a row of so many.
func noPlaces(many int) []int {
	return []int{-1, -2, -many, -many - 1, many, many + 1, many - 1 + 1<<16, many - 1 + 1<<32, -1 << 32, math.MaxInt, math.MinInt, math.MinInt + many - 1}
}
