package opt_test

import (
	"fmt"
	"math/big"
	"math/rand"
	"testing"

	"carousel/api"
	"carousel/opt"
)

// rounded tells a by b, where b is above 0, to the nearest whole number, of two to the even one.
func rounded(a, b *big.Int) *big.Int {
	lower, rest := new(big.Int).DivMod(a, b, new(big.Int))
	side := rest.Lsh(rest, 1).Cmp(b)
	if side > 0 || side == 0 && lower.Bit(0) == 1 {
		lower.Add(lower, big.NewInt(1))
	}
	return lower
}

// held tells a whole number within two others.
func held(a, from, to *big.Int) *big.Int {
	if a.Cmp(from) < 0 {
		return from
	}
	if a.Cmp(to) > 0 {
		return to
	}
	return a
}

func parts(v api.Fix) *big.Int { return big.NewInt(int64(v)) }

func asFix(a *big.Int) *big.Int { return held(a, parts(low), parts(top)) }

func product(a api.Fix, b *big.Int) *big.Int {
	return asFix(rounded(new(big.Int).Mul(parts(a), b), parts(one)))
}

// mustGo tells the chapter's words once more for one number, in whole numbers without bounds.
func mustGo(p, m api.Fix, g api.Wide, many int64, r opt.Rate) (toP, toM api.Fix) {
	d := asFix(rounded(bigOf(g), big.NewInt(many)))
	if r.Bound != 0 {
		d = held(d, new(big.Int).Neg(parts(r.Bound)), parts(r.Bound))
	}
	moved := asFix(new(big.Int).Add(product(r.Keep, parts(m)), d))
	gone := asFix(new(big.Int).Sub(parts(p), product(r.Step, moved)))
	return api.Fix(gone.Int64()), api.Fix(moved.Int64())
}

// strewnRate is often below, at and above one, and often without a bound.
func strewnRate(r *rand.Rand) opt.Rate {
	some := func() api.Fix {
		if r.Intn(2) == 0 {
			return []api.Fix{0, one, half, one / 4, -half, -one, 2 * one, 1}[r.Intn(8)]
		}
		return strewnFix(r)
	}
	rate := opt.Rate{Step: some(), Keep: some()}
	if r.Intn(2) == 0 {
		rate.Bound = strewnFix(r) & top
	}
	return rate
}

func TestStrewnSteps(t *testing.T) {
	r := rand.New(rand.NewSource(1))
	for range 30000 {
		size := r.Intn(6)
		s := state(strewnFixes(r, size), strewnFixes(r, size))
		g, many, rate := strewnWides(r, size), int64(r.Uint64()>>1)>>r.Intn(63)|1, strewnRate(r)
		if r.Intn(2) == 0 {
			many = r.Int63n(20) + 1
		}
		p, m := make([]api.Fix, size), make([]api.Fix, size)
		for i := range g {
			p[i], m[i] = mustGo(s.P[i], s.M[i], g[i], many, rate)
		}
		goes(t, fmt.Sprintf("of %v, %v by %d, %v", s, g, many, rate), s, g, many, rate, p, m)
		if t.Failed() {
			return
		}
	}
}

// Small numbers, by small counts, within small bounds: there the edges lie close together.
func TestSmallSteps(t *testing.T) {
	for sum := int64(-9); sum <= 9; sum++ {
		for many := int64(1); many <= 4; many++ {
			for bound := api.Fix(0); bound <= 4; bound++ {
				for _, keep := range []api.Fix{0, half, one, -half} {
					for _, m := range []api.Fix{-3, 0, 1} {
						rate := opt.Rate{Step: half, Keep: keep, Bound: bound}
						p, to := mustGo(5, m, wides(sum)[0], many, rate)
						goes(t, fmt.Sprintf("of M %d, g %d by %d, %v", m, sum, many, rate), state(fixes(5), fixes(m)), wides(sum), many, rate, fixes(p), fixes(to))
					}
				}
			}
		}
	}
}
