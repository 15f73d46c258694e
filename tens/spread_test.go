package tens_test

import (
	"fmt"
	"slices"
	"testing"

	"carousel/api"
	"carousel/fix"
	"carousel/shape"
	"carousel/tens"
)

// pairCalls are those that spread two, with what they reckon number by number.
func pairCalls() []pairCall {
	return []pairCall{{"Add", tens.Add, fix.Add}, {"Sub", tens.Sub, fix.Sub}, {"Mul", tens.Mul, fix.Mul}}
}

type pairCall struct {
	name   string
	call   func(a, b api.Tensor) (api.Tensor, api.Errno)
	reckon func(a, b api.Fix) api.Fix
}

func TestAddSubMul(t *testing.T) {
	a, row, column := counted([]int{2, 3}), tensor([]int{3}, 10, 20, 30), tensor([]int{2, 1}, 100, 200)
	for _, c := range []struct {
		name       string
		call       func(a, b api.Tensor) (api.Tensor, api.Errno)
		a, b, want api.Tensor
	}{
		{"Add", tens.Add, a, row, tensor([]int{2, 3}, 11, 22, 33, 14, 25, 36)},
		{"Add", tens.Add, row, a, tensor([]int{2, 3}, 11, 22, 33, 14, 25, 36)},
		{"Sub", tens.Sub, a, row, tensor([]int{2, 3}, -9, -18, -27, -6, -15, -24)},
		{"Sub", tens.Sub, row, a, tensor([]int{2, 3}, 9, 18, 27, 6, 15, 24)},
		{"Add", tens.Add, a, column, tensor([]int{2, 3}, 101, 102, 103, 204, 205, 206)},
		{"Sub", tens.Sub, column, row, tensor([]int{2, 3}, 90, 80, 70, 190, 180, 170)},
		{"Add", tens.Add, a, a, tensor([]int{2, 3}, 2, 4, 6, 8, 10, 12)},
		{"Add", tens.Add, a, tensor(nil, 7), tensor([]int{2, 3}, 8, 9, 10, 11, 12, 13)},
		{"Add", tens.Add, tensor(nil, 7), tensor(nil, 8), tensor(nil, 15)},
		{"Sub", tens.Sub, tensor(nil, 7), tensor([]int{1, 1}, 8), tensor([]int{1, 1}, -1)},
		{"Sub", tens.Sub, tensor([]int{2}, 5, 6), tensor([]int{2}, 1, 9), tensor([]int{2}, 4, -3)},
		{"Mul", tens.Mul, tensor([]int{2}, 2*api.One, 3*api.One), tensor([]int{2, 1}, api.One, -api.One), tensor([]int{2, 2}, 2*api.One, 3*api.One, -2*api.One, -3*api.One)},
		{"Mul", tens.Mul, tensor([]int{4}, 1, 3, 5, -3), tensor(nil, half), tensor([]int{4}, 0, 2, 2, -2)},
		{"Mul", tens.Mul, tensor([]int{2}, 0, api.Top), tensor([]int{2}, api.Low, 0), tensor([]int{2}, 0, 0)},
	} {
		got, err := c.call(c.a, c.b)
		want(t, fmt.Sprintf("%s(%v, %v)", c.name, c.a, c.b), got, err, c.want)
	}
}

func TestAddSubMulAtTheBounds(t *testing.T) {
	top, low := tensor([]int{1}, api.Top), tensor([]int{1}, api.Low)
	for _, c := range []struct {
		name string
		call func(a, b api.Tensor) (api.Tensor, api.Errno)
		a, b api.Tensor
		want api.Fix
	}{
		{"Add", tens.Add, top, tensor([]int{1}, 5), api.Top}, {"Add", tens.Add, low, tensor([]int{1}, -5), api.Low},
		{"Add", tens.Add, top, low, -1}, {"Add", tens.Add, top, tensor([]int{1}, 0), api.Top}, {"Add", tens.Add, top, tensor([]int{1}, -1), api.Top - 1},
		{"Sub", tens.Sub, low, tensor([]int{1}, 1), api.Low}, {"Sub", tens.Sub, tensor([]int{1}, 0), low, api.Top},
		{"Sub", tens.Sub, tensor([]int{1}, -1), low, api.Top}, {"Sub", tens.Sub, low, low, 0}, {"Sub", tens.Sub, top, low, api.Top}, {"Sub", tens.Sub, low, top, api.Low},
		{"Mul", tens.Mul, top, top, api.Top}, {"Mul", tens.Mul, top, low, api.Low}, {"Mul", tens.Mul, low, low, api.Top},
		{"Mul", tens.Mul, low, tensor([]int{1}, api.One), api.Low}, {"Mul", tens.Mul, low, tensor([]int{1}, -api.One), api.Top},
	} {
		got, err := c.call(c.a, c.b)
		want(t, fmt.Sprintf("%s(%v, %v)", c.name, c.a, c.b), got, err, tensor([]int{1}, c.want))
	}
}

// pairwise spreads both, number by number, place by place.
func pairwise(a, b api.Tensor, d []int, reckon func(a, b api.Fix) api.Fix) api.Tensor {
	out := api.Tensor{Dims: d}
	place := make([]int, len(d))
	for range sizeOf(d) {
		out.V = append(out.V, reckon(numberAt(a, ownPlace(a.Dims, place)), numberAt(b, ownPlace(b.Dims, place))))
		onward(d, place)
	}
	return out
}

func TestAddSubMulOfManyPairs(t *testing.T) {
	for i, da := range someShapes() {
		a := strewn(int64(i), da)
		for j, db := range someShapes() {
			b := strewn(int64(1000+j), db)
			d, err := shape.Join(da, db)
			for _, c := range pairCalls() {
				got, e := c.call(a, b)
				what := fmt.Sprintf("%s of %v and %v", c.name, da, db)
				if err != api.OK {
					refused(t, what, got, e, err)
				} else if wanted := pairwise(a, b, d, c.reckon); e != api.OK || !alike(got, wanted) {
					t.Fatalf("P6.1: %s: %v, %d, want %v", what, short(got), e, short(wanted))
				}
			}
		}
	}
}

func TestAddSubMulRefuse(t *testing.T) {
	for _, c := range []struct {
		a, b []int
		err  api.Errno
	}{
		{[]int{2, 3}, []int{2}, api.ESHAPE}, {[]int{2}, []int{3}, api.ESHAPE}, {[]int{2, 3}, []int{3, 2}, api.ESHAPE}, {[]int{6}, []int{2, 3}, api.ESHAPE},
		{[]int{64, 1}, []int{65}, api.ELIMIT}, {[]int{64, 1}, []int{1, 65}, api.ELIMIT}, {[]int{4096, 1}, []int{2}, api.ELIMIT}, {[]int{4096, 1}, []int{1, 4096}, api.ELIMIT},
		{[]int{2, 64, 1}, []int{3, 1, 65}, api.ESHAPE}, {[]int{64, 1, 2}, []int{1, 65, 3}, api.ESHAPE},
	} {
		for _, p := range pairCalls() {
			got, err := p.call(counted(c.a), counted(c.b))
			refused(t, fmt.Sprintf("%s of %v and %v", p.name, c.a, c.b), got, err, c.err)
			got, err = p.call(counted(c.b), counted(c.a))
			refused(t, fmt.Sprintf("%s of %v and %v", p.name, c.b, c.a), got, err, c.err)
			// One number too few: it is no tensor, whatever the shapes.
			none := counted(c.b)
			none.V = none.V[1:]
			got, err = p.call(counted(c.a), none)
			refused(t, fmt.Sprintf("%s of %v and no tensor", p.name, c.a), got, err, api.EARG)
			got, err = p.call(none, counted(c.a))
			refused(t, fmt.Sprintf("%s of no tensor and %v", p.name, c.a), got, err, api.EARG)
		}
	}
}

func TestFold(t *testing.T) {
	ones, _ := tens.New([]int{2, 3}, api.One)
	a, cube := counted([]int{2, 3}), counted([]int{2, 2, 2})
	for _, c := range []struct {
		a    api.Tensor
		d    []int
		want []api.Fix
	}{
		{ones, []int{3}, []api.Fix{2 * api.One, 2 * api.One, 2 * api.One}},
		{a, []int{3}, []api.Fix{5, 7, 9}}, {a, []int{1, 3}, []api.Fix{5, 7, 9}}, {a, []int{2, 1}, []api.Fix{6, 15}},
		{a, []int{2, 3}, []api.Fix{1, 2, 3, 4, 5, 6}}, {a, nil, []api.Fix{21}}, {a, []int{}, []api.Fix{21}}, {a, []int{1}, []api.Fix{21}}, {a, []int{1, 1}, []api.Fix{21}},
		{cube, []int{2}, []api.Fix{16, 20}}, {cube, []int{2, 1}, []api.Fix{14, 22}}, {cube, []int{2, 1, 1}, []api.Fix{10, 26}},
		{cube, []int{2, 1, 2}, []api.Fix{4, 6, 12, 14}}, {cube, []int{2, 2}, []api.Fix{6, 8, 10, 12}}, {cube, []int{2, 2, 1}, []api.Fix{3, 7, 11, 15}},
		{tensor(nil, 5), nil, []api.Fix{5}}, {tensor([]int{1, 1}, 5), []int{1}, []api.Fix{5}}, {tensor([]int{1}, 5), nil, []api.Fix{5}},
		{counted([]int{4096}), nil, []api.Fix{4096 * 4097 / 2}}, {counted([]int{4096}), []int{1}, []api.Fix{4096 * 4097 / 2}},
		{tensor([]int{2}, api.Low, api.Top), []int{2}, []api.Fix{api.Low, api.Top}},
	} {
		got, err := tens.Fold(c.a, c.d)
		want(t, fmt.Sprintf("Fold of %v to %v", short(c.a), c.d), got, err, tensor(c.d, c.want...))
	}
}

// Held at a bound, a sum forgets how far past it it was: so the order shows.
func TestFoldSumsInOrder(t *testing.T) {
	top, low := api.Top, api.Low
	for _, c := range []struct {
		a    api.Tensor
		d    []int
		want []api.Fix
	}{
		{tensor([]int{3}, top, 5, -7), nil, []api.Fix{top - 7}},
		{tensor([]int{3}, -7, top, 5), nil, []api.Fix{top - 2}},
		{tensor([]int{3}, -7, 5, top), nil, []api.Fix{top - 2}},
		{tensor([]int{3}, low, -5, 7), nil, []api.Fix{low + 7}},
		{tensor([]int{3}, 7, -5, low), nil, []api.Fix{low + 2}},
		{tensor([]int{4}, top, top, low, low), nil, []api.Fix{low}},
		{tensor([]int{4}, low, low, top, top), nil, []api.Fix{top - 1}},
		{tensor([]int{2, 2}, top, 5, -7, 1), nil, []api.Fix{top - 6}},
		{tensor([]int{2, 2}, top, -7, 5, 1), nil, []api.Fix{top - 1}},
		{tensor([]int{3, 2}, top, -7, 5, 5, -7, top), []int{2}, []api.Fix{top - 7, top - 2}},
		{tensor([]int{2, 3}, top, 5, -7, -7, 5, top), []int{2, 1}, []api.Fix{top - 7, top - 2}},
		{tensor([]int{2, 1, 2}, top, 5, -7, 1), []int{1, 1, 1}, []api.Fix{top - 6}},
	} {
		got, err := tens.Fold(c.a, c.d)
		want(t, fmt.Sprintf("Fold of %v to %v", c.a, c.d), got, err, tensor(c.d, c.want...))
	}
}

// folded gathers what each number of d is spread to, and sums it thereafter.
func folded(a api.Tensor, d []int) api.Tensor {
	parts := make([][]api.Fix, sizeOf(d))
	where := counted(d)
	place := make([]int, len(a.Dims))
	for _, v := range a.V {
		to := int(numberAt(where, ownPlace(d, place))) - 1
		parts[to] = append(parts[to], v)
		onward(a.Dims, place)
	}
	out := api.Tensor{Dims: d}
	for _, part := range parts {
		sum := api.Fix(0)
		for _, v := range part {
			sum = fix.Add(sum, v)
		}
		out.V = append(out.V, sum)
	}
	return out
}

func TestFoldOfManyPairs(t *testing.T) {
	for i, big := range someShapes() {
		a := strewn(int64(i), big)
		for _, d := range someShapes() {
			got, err := tens.Fold(a, d)
			what := fmt.Sprintf("Fold of %v to %v", big, d)
			if both, e := shape.Join(d, big); e == api.OK && slices.Equal(both, big) {
				want(t, what, got, err, folded(a, d))
			} else {
				refused(t, what, got, err, api.ESHAPE)
			}
		}
	}
}

func TestFoldRefuses(t *testing.T) {
	for _, c := range []struct {
		a, d []int
		err  api.Errno
	}{
		{[]int{2, 3}, []int{2}, api.ESHAPE}, {[]int{3}, []int{2, 3}, api.ESHAPE}, {[]int{3}, []int{1, 3}, api.ESHAPE}, {nil, []int{1}, api.ESHAPE},
		{[]int{1}, []int{3}, api.ESHAPE}, {[]int{2, 1}, []int{2, 3}, api.ESHAPE}, {[]int{2, 3}, []int{6}, api.ESHAPE}, {[]int{2, 3}, []int{3, 2}, api.ESHAPE},
		// Join answers ELIMIT of these: a's shape it is not, all the same.
		{[]int{64, 1}, []int{65}, api.ESHAPE}, {[]int{4096, 1}, []int{2}, api.ESHAPE}, {[]int{1, 4096}, []int{4096, 1}, api.ESHAPE},
	} {
		got, err := tens.Fold(counted(c.a), c.d)
		refused(t, fmt.Sprintf("Fold of %v to %v", c.a, c.d), got, err, c.err)
	}
	for _, d := range noShapes() {
		for _, a := range []api.Tensor{tensor(nil, 1), counted([]int{2, 3}), counted([]int{4096})} {
			got, err := tens.Fold(a, d)
			refused(t, fmt.Sprintf("Fold of %v to %v", a.Dims, d), got, err, api.EARG)
		}
	}
}
