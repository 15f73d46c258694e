package opt_test

import (
	"math"
	"math/big"
	"math/rand"
	"slices"
	"testing"

	"carousel/api"
	"carousel/opt"
)

const (
	one  = api.One
	half = one / 2
	top  = api.Top
	low  = api.Low
)

func fixes(v ...api.Fix) []api.Fix { return v }

func state(p, m []api.Fix) opt.State { return opt.State{P: p, M: m} }

// wides are numbers of 64 bits, as Wides.
func wides(v ...int64) []api.Wide {
	l := make([]api.Wide, len(v))
	for i := range v {
		l[i] = wideOf(big.NewInt(v[i]))
	}
	return l
}

// wideOf tells a whole number as a Wide, modulo 2^128.
func wideOf(v *big.Int) api.Wide {
	m := new(big.Int).Mod(v, new(big.Int).Lsh(big.NewInt(1), 128))
	hi := new(big.Int).Rsh(m, 64)
	lo := new(big.Int).Sub(m, new(big.Int).Lsh(hi, 64))
	return api.Wide{Hi: int64(hi.Uint64()), Lo: lo.Uint64()}
}

// bigOf tells what a Wide stands for.
func bigOf(a api.Wide) *big.Int {
	hi := new(big.Int).Lsh(big.NewInt(a.Hi), 64)
	return hi.Add(hi, new(big.Int).SetUint64(a.Lo))
}

// The ends of a Wide.
func greatest() api.Wide { return api.Wide{Hi: math.MaxInt64, Lo: math.MaxUint64} }
func least() api.Wide    { return api.Wide{Hi: math.MinInt64} }

// short leaves out what nobody would read.
func short[T any](l []T) []T { return l[:min(len(l), 12)] }

// goes asks Apply for a state.
func goes(t *testing.T, what string, s opt.State, g []api.Wide, many int64, r opt.Rate, p, m []api.Fix) {
	t.Helper()
	next, err := opt.Apply(s, g, many, r)
	if err != api.OK || !slices.Equal(next.P, p) || !slices.Equal(next.M, m) {
		t.Errorf("P15.1: Apply %s: P %v, M %v, %d, want P %v, M %v", what, short(next.P), short(next.M), err, short(p), short(m))
	}
}

// refuses asks Apply for an error and for nothing beside it.
func refuses(t *testing.T, what string, s opt.State, g []api.Wide, many int64, r opt.Rate, wanted api.Errno) {
	t.Helper()
	if next, err := opt.Apply(s, g, many, r); err != wanted || len(next.P) != 0 || len(next.M) != 0 {
		t.Errorf("P15.1: Apply %s: P %v, M %v, %d, want none, %d", what, short(next.P), short(next.M), err, wanted)
	}
}

// strewnFix has all sizes, the bounds among them.
func strewnFix(r *rand.Rand) api.Fix {
	if r.Intn(6) == 0 {
		return []api.Fix{top, low, 0, 1, -1, one, -one, half, -half, low + 1}[r.Intn(10)]
	}
	return api.Fix(r.Uint64()) >> r.Intn(64)
}

// strewnWide has all sizes, but mostly those of sums of several numbers.
func strewnWide(r *rand.Rand) api.Wide {
	switch r.Intn(12) {
	case 0:
		return greatest()
	case 1:
		return least()
	case 2:
		return api.Wide{Hi: int64(r.Uint64()) >> r.Intn(64), Lo: r.Uint64()}
	}
	sum := new(big.Int)
	for range r.Intn(5) + 1 {
		sum.Add(sum, big.NewInt(int64(strewnFix(r))))
	}
	return wideOf(sum)
}

func strewnFixes(r *rand.Rand, many int) []api.Fix {
	v := make([]api.Fix, many)
	for i := range v {
		v[i] = strewnFix(r)
	}
	return v
}

func strewnWides(r *rand.Rand, many int) []api.Wide {
	v := make([]api.Wide, many)
	for i := range v {
		v[i] = strewnWide(r)
	}
	return v
}
