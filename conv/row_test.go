package conv_test

import (
	"fmt"
	"testing"

	"carousel/api"
	"carousel/conv"
	"carousel/fix"
)

// exactRow sums what the chapter names, place by place.
func exactRow(a, k api.Tensor, step int) api.Tensor {
	outs, rows, wide := k.Dims[0], k.Dims[1], k.Dims[2]
	stops := slid{rows, a.Dims[1], outs, wide, step}.stops()
	t := api.Tensor{Dims: []int{outs, stops}}
	for o := range outs {
		for n := range stops {
			var s exactSum
			for c := range rows {
				for w := range wide {
					s.add(at2(a, c, n*step+w), at3(k, o, c, w))
				}
			}
			t.V = append(t.V, s.told())
		}
	}
	return t
}

func TestRow(t *testing.T) {
	five := counted(1, 5)
	pair := whole([]int{1, 1, 2}, 1, 1)
	for _, c := range []struct {
		a, k api.Tensor
		step int
		want api.Tensor
	}{
		{whole([]int{1, 3}, 1, 2, 3), pair, 1, whole([]int{1, 2}, 3, 5)},
		{five, pair, 1, whole([]int{1, 4}, 3, 5, 7, 9)}, {five, pair, 2, whole([]int{1, 2}, 3, 7)}, {five, pair, 3, whole([]int{1, 2}, 3, 9)}, {five, pair, 4, whole([]int{1, 1}, 3)}, {five, pair, 64, whole([]int{1, 1}, 3)},
		{five, whole([]int{1, 1, 1}, -2), 1, whole([]int{1, 5}, -2, -4, -6, -8, -10)}, {five, whole([]int{1, 1, 1}, 3), 4, whole([]int{1, 2}, 3, 15)}, {five, whole([]int{1, 1, 1}, 3), 3, whole([]int{1, 2}, 3, 12)},
		{five, whole([]int{1, 1, 5}, 1, 10, 100, 1000, 10000), 1, whole([]int{1, 1}, 54321)}, {five, whole([]int{1, 1, 5}, 1, 10, 100, 1000, 10000), 64, whole([]int{1, 1}, 54321)},
		{five, whole([]int{3, 1, 2}, 1, 0, 0, 1, 1, -1), 1, whole([]int{3, 4}, 1, 2, 3, 4, 2, 3, 4, 5, -1, -1, -1, -1)},
		{whole([]int{2, 3}, 1, 2, 3, 10, 20, 30), whole([]int{2, 2, 2}, 1, 0, 0, 1, 0, 0, 1, 0), 1, whole([]int{2, 2}, 21, 32, 10, 20)},
		{whole([]int{2, 3}, 1, 2, 3, 10, 20, 30), whole([]int{1, 2, 3}, 1, 1, 1, 2, 2, 2), 1, whole([]int{1, 1}, 126)},
		{whole([]int{2, 1}, 3, 4), whole([]int{2, 2, 1}, 1, 10, 100, 1000), 1, whole([]int{2, 1}, 43, 4300)},
		{whole([]int{1, 1}, 3), whole([]int{1, 1, 1}, 4), 1, whole([]int{1, 1}, 12)},
	} {
		got, err := conv.Row(c.a, c.k, c.step)
		want(t, fmt.Sprintf("Row of %v by %v, step %d", c.a, c.k, c.step), got, err, c.want)
	}
}

func TestRowOfManySlides(t *testing.T) {
	for i, s := range manySlides() {
		seed := int64(2 * i)
		for _, c := range [][2]api.Tensor{
			{small(seed, s.rows, s.long), small(seed+1, s.outs, s.rows, s.wide)},
			{strewn(seed, s.rows, s.long), strewn(seed+1, s.outs, s.rows, s.wide)},
		} {
			got, err := conv.Row(c[0], c[1], s.step)
			want(t, fmt.Sprintf("Row of %+v", s), got, err, exactRow(c[0], c[1], s.step))
		}
	}
}

func TestRowRoundsOnce(t *testing.T) {
	for _, c := range []struct {
		a, k []api.Fix
		want api.Fix
	}{
		{[]api.Fix{1}, []api.Fix{half}, 0}, {[]api.Fix{3}, []api.Fix{half}, 2}, {[]api.Fix{5}, []api.Fix{half}, 2}, {[]api.Fix{-1}, []api.Fix{half}, 0}, {[]api.Fix{-3}, []api.Fix{half}, -2}, {[]api.Fix{-5}, []api.Fix{half}, -2},
		{[]api.Fix{1, 1}, []api.Fix{half, half}, 1}, {[]api.Fix{-1, -1}, []api.Fix{half, half}, -1}, {[]api.Fix{1, 1, 1}, []api.Fix{half, half, half}, 2}, {[]api.Fix{-1, -1, -1}, []api.Fix{half, half, half}, -2},
		{[]api.Fix{1, 1, 1, 1, 1}, []api.Fix{half, half, half, half, half}, 2}, {[]api.Fix{1, 1}, []api.Fix{half, 1}, 1}, {[]api.Fix{3, 1}, []api.Fix{half, -1}, 1}, {[]api.Fix{-3, -1}, []api.Fix{half, -1}, -1},
		// Held, at the end alone.
		{[]api.Fix{top, 1}, []api.Fix{api.One, api.One}, top}, {[]api.Fix{low, -1}, []api.Fix{api.One, api.One}, low}, {[]api.Fix{low}, []api.Fix{-api.One}, top}, {[]api.Fix{top, 1}, []api.Fix{api.One, half}, top},
		{[]api.Fix{low, -1}, []api.Fix{api.One, half}, low}, {[]api.Fix{top, top, low, low}, []api.Fix{api.One, api.One, api.One, api.One}, -2},
		// Past what 128 bits hold, and back.
		{[]api.Fix{low, low}, []api.Fix{low, low}, top}, {[]api.Fix{low, low, low, low}, []api.Fix{low, low, low, low}, top}, {[]api.Fix{low, low, low}, []api.Fix{top, top, top}, low},
		{[]api.Fix{low, low, low, low}, []api.Fix{low, low, top, top}, 1 << 32}, {[]api.Fix{low, low, low, low, 3}, []api.Fix{low, low, top, top, half}, 1<<32 + 2}, {[]api.Fix{low, low, low, low, 2}, []api.Fix{top, top, low, low, low}, 0},
	} {
		// The same sum in a row of its own, over several rows, and, each number by itself, in a gradient.
		n := len(c.a)
		for _, rows := range []int{1, n} {
			got, err := conv.Row(tensor([]int{rows, n / rows}, c.a...), tensor([]int{1, rows, n / rows}, c.k...), 1)
			want(t, fmt.Sprintf("Row of %v by %v in %d rows", c.a, c.k, rows), got, err, tensor([]int{1, 1}, c.want))
		}
		got, err := conv.BackIn(tensor([]int{n, 1}, c.a...), tensor([]int{n, 1, 1}, c.k...), 1, 1)
		want(t, fmt.Sprintf("BackIn of %v by %v", c.a, c.k), got, err, tensor([]int{1, 1}, c.want))
		got, err = conv.BackKernel(tensor([]int{1, n}, c.a...), tensor([]int{1, n}, c.k...), 1, 1)
		want(t, fmt.Sprintf("BackKernel of %v by %v", c.a, c.k), got, err, tensor([]int{1, 1, 1}, c.want))
	}
}

// Rounding each product would give another number.
func TestRowIsNoSumOfRoundedProducts(t *testing.T) {
	a, k := tensor([]int{1, 100}), tensor([]int{1, 1, 100})
	var rounded api.Fix
	for range 100 {
		a.V, k.V = append(a.V, 1), append(k.V, half)
		rounded = fix.Add(rounded, fix.Mul(1, half))
	}
	got, err := conv.Row(a, k, 1)
	want(t, "Row of halves of a part", got, err, tensor([]int{1, 1}, 50))
	if rounded != 0 {
		t.Errorf("P8.1: the products, each rounded, come to %d", rounded)
	}
}

func TestRowRefused(t *testing.T) {
	a, k := counted(1, 5), counted(1, 1, 2)
	for _, bad := range noTensors() {
		for _, step := range []int{0, 1, 64, 65} {
			for _, c := range [][2]api.Tensor{{bad, k}, {a, bad}, {bad, bad}, {bad, a}, {k, bad}} {
				got, err := conv.Row(c[0], c[1], step)
				refused(t, fmt.Sprintf("Row of %v, %v, step %d", short(c[0]), short(c[1]), step), got, err, api.EARG)
			}
		}
	}
	for _, step := range badSteps() {
		for _, c := range [][2]api.Tensor{{a, k}, {a, a}, {k, k}, {counted(2, 5), k}, {a, counted(1, 1, 6)}, {counted(1, 4096), counted(2, 1, 1)}} {
			got, err := conv.Row(c[0], c[1], step)
			refused(t, fmt.Sprintf("Row of %v, %v, step %d", short(c[0]), short(c[1]), step), got, err, api.EARG)
		}
	}
	for _, step := range []int{1, 2, 64} {
		pairs := [][2]api.Tensor{
			{a, a}, {k, k}, {k, a}, {counted(2, 5), k}, {a, counted(1, 2, 2)}, {counted(2, 3), counted(2, 3, 2)}, {counted(3, 2), counted(2, 2, 2)}, {a, counted(5, 5, 1)},
			// A window longer than the row, by one, by more; so too if the answer is no shape.
			{a, counted(1, 1, 6)}, {a, counted(1, 1, 4096)}, {counted(1, 1), counted(1, 1, 2)}, {counted(4096, 1), counted(1, 2048, 2)}, {counted(1, 1), counted(2048, 1, 2)},
		}
		for _, other := range otherSides() {
			pairs = append(pairs, [2]api.Tensor{other, k}, [2]api.Tensor{a, other}, [2]api.Tensor{other, other})
		}
		for _, c := range pairs {
			got, err := conv.Row(c[0], c[1], step)
			refused(t, fmt.Sprintf("Row of %v, %v, step %d", short(c[0]), short(c[1]), step), got, err, api.ESHAPE)
		}
	}
}

// The answer may have 4096 numbers, and no more.
func TestRowAtTheLimit(t *testing.T) {
	for _, s := range []slid{
		{1, 4096, 2, 1, 1}, {1, 2049, 2, 1, 1}, {1, 2050, 2, 2, 1}, {1, 4096, 65, 1, 64}, {1, 4096, 64, 1, 63}, {1, 1366, 3, 1, 1}, {1, 2, 4096, 1, 1}, {1, 4096, 3, 1365, 2}, {1, 4096, 4096, 1, 64}, {2, 1366, 3, 1, 1},
	} {
		got, err := conv.Row(counted(s.rows, s.long), counted(s.outs, s.rows, s.wide), s.step)
		refused(t, fmt.Sprintf("Row of %+v", s), got, err, api.ELIMIT)
	}
	for _, s := range []slid{{1, 4096, 1, 1, 1}, {1, 2048, 2, 1, 1}, {1, 2049, 2, 2, 1}, {1, 4096, 64, 1, 64}, {1, 1365, 3, 1, 1}, {1, 1, 4096, 1, 1}, {1, 2, 4096, 1, 2}, {2, 1365, 3, 1, 1}, {1, 4096, 1, 4096, 1}} {
		a, k := small(1, s.rows, s.long), small(2, s.outs, s.rows, s.wide)
		got, err := conv.Row(a, k, s.step)
		want(t, fmt.Sprintf("Row of %+v", s), got, err, exactRow(a, k, s.step))
	}
}
