package conv_test

import (
	"fmt"
	"testing"

	"carousel/api"
	"carousel/conv"
)

// exactBackIn goes through all windows for each number, and asks which of them reach it.
func exactBackIn(g, k api.Tensor, step, long int) api.Tensor {
	outs, rows, wide := k.Dims[0], k.Dims[1], k.Dims[2]
	t := api.Tensor{Dims: []int{rows, long}}
	for c := range rows {
		for l := range long {
			var s exactSum
			for o := range outs {
				for n := range g.Dims[1] {
					if w := l - n*step; w >= 0 && w < wide {
						s.add(at2(g, o, n), at3(k, o, c, w))
					}
				}
			}
			t.V = append(t.V, s.told())
		}
	}
	return t
}

func exactBackKernel(g, a api.Tensor, step, wide int) api.Tensor {
	t := api.Tensor{Dims: []int{g.Dims[0], a.Dims[0], wide}}
	for o := range g.Dims[0] {
		for c := range a.Dims[0] {
			for w := range wide {
				var s exactSum
				for n := range g.Dims[1] {
					s.add(at2(g, o, n), at2(a, c, n*step+w))
				}
				t.V = append(t.V, s.told())
			}
		}
	}
	return t
}

func TestBackIn(t *testing.T) {
	two := whole([]int{1, 2}, 1, 10)
	pair := whole([]int{1, 1, 2}, 1, 3)
	for _, c := range []struct {
		g, k       api.Tensor
		step, long int
		want       api.Tensor
	}{
		{two, pair, 1, 3, whole([]int{1, 3}, 1, 13, 30)},
		{two, pair, 2, 4, whole([]int{1, 4}, 1, 3, 10, 30)},
		// Numbers that no window reaches: behind the last one, and between two.
		{two, pair, 2, 5, whole([]int{1, 5}, 1, 3, 10, 30, 0)}, {two, pair, 3, 5, whole([]int{1, 5}, 1, 3, 0, 10, 30)}, {two, pair, 3, 7, whole([]int{1, 7}, 1, 3, 0, 10, 30, 0, 0)},
		{whole([]int{1, 1}, 5), pair, 64, 4, whole([]int{1, 4}, 5, 15, 0, 0)}, {whole([]int{1, 1}, 5), pair, 1, 2, whole([]int{1, 2}, 5, 15)}, {whole([]int{1, 1}, 5), pair, 64, 2, whole([]int{1, 2}, 5, 15)},
		{whole([]int{1, 3}, 1, 2, 3), whole([]int{1, 1, 1}, 7), 1, 3, whole([]int{1, 3}, 7, 14, 21)},
		{whole([]int{2, 2}, 1, 2, 3, 4), whole([]int{2, 1, 2}, 1, 10, 100, 1000), 1, 3, whole([]int{1, 3}, 301, 3412, 4020)},
		{two, whole([]int{1, 3, 1}, 1, 2, 3), 1, 2, whole([]int{3, 2}, 1, 10, 2, 20, 3, 30)},
		{whole([]int{2, 1}, 1, 10), whole([]int{2, 2, 2}, 1, 2, 3, 4, 5, 6, 7, 8), 1, 2, whole([]int{2, 2}, 51, 62, 73, 84)},
	} {
		got, err := conv.BackIn(c.g, c.k, c.step, c.long)
		want(t, fmt.Sprintf("BackIn of %v by %v, step %d, long %d", c.g, c.k, c.step, c.long), got, err, c.want)
	}
}

func TestBackKernel(t *testing.T) {
	two := whole([]int{1, 2}, 1, 10)
	five := counted(1, 5)
	for _, c := range []struct {
		g, a       api.Tensor
		step, wide int
		want       api.Tensor
	}{
		{two, counted(1, 3), 1, 2, whole([]int{1, 1, 2}, 21, 32)}, {two, five, 2, 2, whole([]int{1, 1, 2}, 31, 42)}, {two, five, 2, 3, whole([]int{1, 1, 3}, 31, 42, 53)}, {two, five, 4, 1, whole([]int{1, 1, 1}, 51)}, {two, five, 3, 1, whole([]int{1, 1, 1}, 41)},
		{whole([]int{1, 1}, -3), five, 1, 5, whole([]int{1, 1, 5}, -3, -6, -9, -12, -15)}, {whole([]int{1, 1}, -3), five, 64, 1, whole([]int{1, 1, 1}, -3)},
		{whole([]int{1, 5}, 1, 10, 100, 1000, 10000), five, 1, 1, whole([]int{1, 1, 1}, 54321)},
		{whole([]int{2, 1}, 1, 10), whole([]int{2, 2}, 1, 2, 3, 4), 1, 2, whole([]int{2, 2, 2}, 1, 2, 3, 4, 10, 20, 30, 40)},
		{whole([]int{2, 2}, 1, 10, 100, 1000), whole([]int{1, 2}, 3, 4), 1, 1, whole([]int{2, 1, 1}, 43, 4300)},
		{two, whole([]int{3, 2}, 1, 2, 3, 4, 5, 6), 1, 1, whole([]int{1, 3, 1}, 21, 43, 65)},
	} {
		got, err := conv.BackKernel(c.g, c.a, c.step, c.wide)
		want(t, fmt.Sprintf("BackKernel of %v and %v, step %d, wide %d", c.g, c.a, c.step, c.wide), got, err, c.want)
	}
}

func TestBackOfManySlides(t *testing.T) {
	for i, s := range manySlides() {
		seed := int64(3 * i)
		for _, c := range [][3]api.Tensor{
			{small(seed, s.rows, s.long), small(seed+1, s.outs, s.rows, s.wide), small(seed+2, s.outs, s.stops())},
			{strewn(seed, s.rows, s.long), strewn(seed+1, s.outs, s.rows, s.wide), strewn(seed+2, s.outs, s.stops())},
		} {
			a, k, g := c[0], c[1], c[2]
			got, err := conv.BackIn(g, k, s.step, s.long)
			want(t, fmt.Sprintf("BackIn of %+v", s), got, err, exactBackIn(g, k, s.step, s.long))
			got, err = conv.BackKernel(g, a, s.step, s.wide)
			want(t, fmt.Sprintf("BackKernel of %+v", s), got, err, exactBackKernel(g, a, s.step, s.wide))
		}
	}
}

// Both ways tell one thing: with whole numbers g times Row of a by k comes to a times BackIn, and to k times BackKernel.
func TestBackMeetsRow(t *testing.T) {
	times := func(a, b api.Tensor) api.Fix {
		var s exactSum
		for i := range a.V {
			s.add(a.V[i], b.V[i])
		}
		return s.told()
	}
	for i, s := range manySlides() {
		seed := int64(3 * i)
		a, k, g := few(seed, s.rows, s.long), few(seed+1, s.outs, s.rows, s.wide), few(seed+2, s.outs, s.stops())
		for _, t := range []api.Tensor{a, k, g} {
			for j := range t.V {
				t.V[j] *= api.One
			}
		}
		y, _ := conv.Row(a, k, s.step)
		in, _ := conv.BackIn(g, k, s.step, s.long)
		kernel, _ := conv.BackKernel(g, a, s.step, s.wide)
		if len(y.V) != len(g.V) || len(in.V) != len(a.V) || len(kernel.V) != len(k.V) {
			t.Fatalf("P8.1: of %+v: %d, %d and %d numbers", s, len(y.V), len(in.V), len(kernel.V))
		}
		if forward := times(g, y); times(a, in) != forward || times(k, kernel) != forward {
			t.Errorf("P8.1: of %+v: %d forward, %d by BackIn, %d by BackKernel", s, forward, times(a, in), times(k, kernel))
		}
	}
}

func TestBackRefusesArguments(t *testing.T) {
	g, k, a := counted(1, 2), counted(1, 1, 2), counted(1, 3)
	in := func(g, k api.Tensor, step, long int) {
		t.Helper()
		got, err := conv.BackIn(g, k, step, long)
		refused(t, fmt.Sprintf("BackIn of %v, %v, step %d, long %d", short(g), short(k), step, long), got, err, api.EARG)
	}
	kernel := func(g, a api.Tensor, step, wide int) {
		t.Helper()
		got, err := conv.BackKernel(g, a, step, wide)
		refused(t, fmt.Sprintf("BackKernel of %v, %v, step %d, wide %d", short(g), short(a), step, wide), got, err, api.EARG)
	}
	for _, bad := range noTensors() {
		for _, step := range []int{0, 1, 64, 65} {
			for _, n := range []int{0, 1, 3, 4096, 4097} {
				in(bad, k, step, n)
				in(g, bad, step, n)
				in(bad, bad, step, n)
				kernel(bad, a, step, n)
				kernel(g, bad, step, n)
				kernel(bad, bad, step, n)
			}
		}
	}
	// Ahead of sides that do not fit, and of answers that are no shape.
	for _, step := range badSteps() {
		for _, n := range []int{1, 2, 3, 5, 4096} {
			in(g, k, step, n)
			in(k, g, step, n)
			in(counted(2, 1), k, step, n)
			in(counted(1, 1), counted(1, 4096, 1), step, n)
			kernel(g, a, step, n)
			kernel(k, k, step, n)
			kernel(counted(64, 1), counted(64, 2), step, n)
		}
	}
	for _, n := range badLengths() {
		for _, step := range []int{1, 2, 64} {
			in(g, k, step, n)
			in(k, g, step, n)
			in(counted(2, 1), k, step, n)
			in(counted(1, 1), counted(1, 4096, 1), step, n)
			kernel(g, a, step, n)
			kernel(k, k, step, n)
			kernel(counted(64, 1), counted(64, 2), step, n)
		}
	}
}

func TestBackInRefusesShapes(t *testing.T) {
	g, k := counted(1, 2), counted(1, 1, 2)
	type call struct {
		g, k       api.Tensor
		step, long int
	}
	calls := []call{
		{k, g, 1, 3}, {g, g, 1, 3}, {k, k, 1, 3},
		// O's that do not meet.
		{counted(2, 2), k, 1, 3}, {g, counted(2, 1, 2), 1, 3}, {g, counted(2, 2, 1), 1, 2}, {counted(2, 1), counted(1, 2, 1), 1, 1},
		// A window above long.
		{counted(1, 1), k, 1, 1}, {counted(1, 1), counted(1, 1, 5), 1, 4}, {counted(1, 1), counted(1, 1, 4096), 64, 4095}, {counted(1, 1), counted(1, 1, 4096), 1, 1},
		// One above long with a step, by which the division would come to N all the same.
		{counted(1, 1), k, 2, 1}, {counted(1, 1), counted(1, 1, 64), 64, 1},
		// Another N.
		{g, k, 1, 2}, {g, k, 1, 4}, {g, k, 2, 3}, {g, k, 2, 6}, {g, k, 64, 65}, {g, k, 64, 130}, {counted(1, 1), k, 1, 3}, {counted(1, 3), k, 1, 3}, {g, k, 1, 4096}, {counted(1, 4096), counted(1, 1, 1), 1, 4095},
		// So too, if the answer is no shape.
		{g, counted(1, 4096, 1), 1, 4096}, {counted(2, 2), counted(1, 4096, 1), 1, 2}, {counted(1, 1), counted(1, 2048, 2), 1, 4096},
	}
	for _, other := range otherSides() {
		calls = append(calls, call{other, k, 1, 3}, call{g, other, 1, 3}, call{other, other, 1, 1})
	}
	for _, c := range calls {
		got, err := conv.BackIn(c.g, c.k, c.step, c.long)
		refused(t, fmt.Sprintf("BackIn of %v, %v, step %d, long %d", short(c.g), short(c.k), c.step, c.long), got, err, api.ESHAPE)
	}
	for _, c := range []call{{g, k, 2, 4}, {g, k, 2, 5}, {g, k, 64, 66}, {g, k, 64, 129}} {
		got, err := conv.BackIn(c.g, c.k, c.step, c.long)
		want(t, fmt.Sprintf("BackIn at the edge of N, step %d, long %d", c.step, c.long), got, err, exactBackIn(c.g, c.k, c.step, c.long))
	}
}

func TestBackKernelRefusesShapes(t *testing.T) {
	g, a := counted(1, 2), counted(1, 3)
	three := counted(1, 1, 3)
	type call struct {
		g, a       api.Tensor
		step, wide int
	}
	calls := []call{
		{three, a, 1, 2}, {g, three, 1, 2}, {three, three, 1, 2},
		// A window above the row.
		{g, a, 1, 4}, {counted(1, 1), a, 1, 4}, {counted(1, 1), a, 64, 4}, {counted(1, 1), a, 2, 4}, {counted(1, 1), a, 1, 4096}, {counted(1, 1), counted(1, 4095), 64, 4096},
		// Another N.
		{g, a, 1, 1}, {g, a, 1, 3}, {g, a, 2, 2}, {counted(1, 1), a, 1, 2}, {counted(1, 3), a, 1, 2}, {counted(1, 4), a, 1, 2}, {g, counted(1, 64), 64, 1}, {g, counted(1, 129), 64, 1}, {counted(2, 1), a, 1, 2},
		// So too, if the answer is no shape.
		{counted(64, 2), counted(64, 64), 1, 64}, {counted(64, 1), counted(64, 64), 1, 4096},
	}
	for _, other := range otherSides() {
		calls = append(calls, call{other, a, 1, 2}, call{g, other, 1, 2}, call{other, other, 1, 1})
	}
	for _, c := range calls {
		got, err := conv.BackKernel(c.g, c.a, c.step, c.wide)
		refused(t, fmt.Sprintf("BackKernel of %v, %v, step %d, wide %d", short(c.g), short(c.a), c.step, c.wide), got, err, api.ESHAPE)
	}
	for _, c := range []call{{g, counted(1, 65), 64, 1}, {g, counted(1, 128), 64, 1}, {counted(1, 1), counted(1, 64), 64, 1}} {
		got, err := conv.BackKernel(c.g, c.a, c.step, c.wide)
		want(t, fmt.Sprintf("BackKernel at the edge of N, %v, step %d", c.a.Dims, c.step), got, err, exactBackKernel(c.g, c.a, c.step, c.wide))
	}
}

// The answers may have 4096 numbers, and no more.
func TestBackAtTheLimit(t *testing.T) {
	for _, s := range []slid{{2, 2049, 1, 1, 64}, {2, 4096, 1, 2048, 64}, {64, 65, 1, 1, 1}, {3, 1366, 1, 1, 1}, {4096, 2, 1, 1, 64}, {4096, 2, 1, 1, 1}, {65, 64, 1, 2, 3}} {
		g, k := counted(s.outs, s.stops()), counted(s.outs, s.rows, s.wide)
		got, err := conv.BackIn(g, k, s.step, s.long)
		refused(t, fmt.Sprintf("BackIn of %+v", s), got, err, api.ELIMIT)
	}
	for _, s := range []slid{{2, 2048, 1, 1, 64}, {64, 64, 1, 1, 1}, {3, 1365, 1, 1, 1}, {4096, 1, 1, 1, 1}, {1, 4096, 1, 1, 64}, {64, 64, 64, 1, 1}} {
		g, k := small(1, s.outs, s.stops()), small(2, s.outs, s.rows, s.wide)
		got, err := conv.BackIn(g, k, s.step, s.long)
		want(t, fmt.Sprintf("BackIn of %+v", s), got, err, exactBackIn(g, k, s.step, s.long))
	}
	for _, s := range []slid{{1, 4096, 2, 2049, 64}, {64, 64, 64, 2, 1}, {64, 1, 65, 1, 1}, {1, 4096, 2, 4096, 1}, {2, 1366, 2, 1366, 1}, {1, 2, 4096, 2, 1}, {2, 1, 4096, 1, 64}} {
		g, a := counted(s.outs, s.stops()), counted(s.rows, s.long)
		got, err := conv.BackKernel(g, a, s.step, s.wide)
		refused(t, fmt.Sprintf("BackKernel of %+v", s), got, err, api.ELIMIT)
	}
	for _, s := range []slid{{1, 4096, 2, 2048, 64}, {64, 64, 64, 1, 1}, {64, 1, 64, 1, 1}, {1, 4096, 1, 4096, 1}, {2, 1024, 2, 1024, 1}, {1, 1, 4096, 1, 1}} {
		g, a := small(1, s.outs, s.stops()), small(2, s.rows, s.long)
		got, err := conv.BackKernel(g, a, s.step, s.wide)
		want(t, fmt.Sprintf("BackKernel of %+v", s), got, err, exactBackKernel(g, a, s.step, s.wide))
	}
}
