package matm_test

import (
	"fmt"
	"testing"

	"carousel/api"
	"carousel/matm"
)

// exactMul goes through rows and columns by their places.
func exactMul(a, b api.Tensor) api.Tensor {
	n, long, m := a.Dims[0], a.Dims[1], b.Dims[1]
	product := api.Tensor{Dims: []int{n, m}}
	for i := range n {
		for j := range m {
			var row, column []api.Fix
			for k := range long {
				row = append(row, numberAt(a, []int{i, k}))
				column = append(column, numberAt(b, []int{k, j}))
			}
			product.V = append(product.V, exactDot(row, column))
		}
	}
	return product
}

func TestMul(t *testing.T) {
	a := tensor([]int{2, 3}, whole(1, 2, 3, 4, 5, 6)...)
	for _, c := range []struct{ a, b, want api.Tensor }{
		{tensor([]int{1, 2}, whole(1, 2)...), tensor([]int{2, 1}, whole(3, 4)...), tensor([]int{1, 1}, whole(11)...)},
		{tensor([]int{2, 1}, whole(3, 4)...), tensor([]int{1, 2}, whole(1, 2)...), tensor([]int{2, 2}, whole(3, 6, 4, 8)...)},
		{a, tensor([]int{3, 2}, whole(1, 0, 0, 1, 1, 1)...), tensor([]int{2, 2}, whole(4, 5, 10, 11)...)},
		{a, tensor([]int{3, 4}, whole(1, 0, 0, -1, 0, 1, 0, -1, 0, 0, 1, 2)...), tensor([]int{2, 4}, whole(1, 2, 3, 3, 4, 5, 6, 3)...)},
		{a, tensor([]int{3, 1}, whole(1, 1, 1)...), tensor([]int{2, 1}, whole(6, 15)...)},
		{tensor([]int{1, 2}, whole(1, -1)...), a, tensor([]int{1, 3}, whole(-3, -3, -3)...)},
		{tensor([]int{2, 2}, whole(1, 2, 3, 4)...), tensor([]int{2, 2}, whole(5, 6, 7, 8)...), tensor([]int{2, 2}, whole(19, 22, 43, 50)...)},
		{tensor([]int{2, 2}, whole(5, 6, 7, 8)...), tensor([]int{2, 2}, whole(1, 2, 3, 4)...), tensor([]int{2, 2}, whole(23, 34, 31, 46)...)},
		{tensor([]int{1, 1}, 3), tensor([]int{1, 1}, half), tensor([]int{1, 1}, 2)},
		// Rounded once, and held, as Dot does it.
		{tensor([]int{1, 2}, 1, 1), tensor([]int{2, 2}, half, -half, half, -half), tensor([]int{1, 2}, 1, -1)},
		{tensor([]int{2, 2}, low, low, top, top), tensor([]int{2, 2}, low, api.One, low, -api.One), tensor([]int{2, 2}, top, 0, low, 0)},
	} {
		got, err := matm.Mul(c.a, c.b)
		want(t, fmt.Sprintf("Mul of %v and %v", c.a, c.b), got, err, c.want)
	}
}

func TestMulOfManyShapes(t *testing.T) {
	sides := [][3]int{
		{64, 64, 64}, {1, 4096, 1}, {64, 1, 64}, {4096, 1, 1}, {1, 1, 4096}, {2, 2048, 2}, {2048, 2, 2}, {2, 2, 2048}, {16, 256, 16}, {5, 7, 11}, {11, 5, 7}, {13, 1, 3}, {1, 13, 3},
	}
	for n := 1; n <= 4; n++ {
		for long := 1; long <= 4; long++ {
			for m := 1; m <= 4; m++ {
				sides = append(sides, [3]int{n, long, m})
			}
		}
	}
	for i, s := range sides {
		at := int64(i)
		for _, c := range [][2]api.Tensor{
			{small(at, []int{s[0], s[1]}), small(at+1, []int{s[1], s[2]})},
			{strewn(at, []int{s[0], s[1]}), strewn(at+1, []int{s[1], s[2]})},
		} {
			got, err := matm.Mul(c[0], c[1])
			want(t, fmt.Sprintf("Mul of %v and %v", c[0].Dims, c[1].Dims), got, err, exactMul(c[0], c[1]))
		}
	}
}

// The matrix with ones from corner to corner leaves another as it is.
func TestMulByOnes(t *testing.T) {
	a := small(1, []int{20, 30})
	for _, n := range []int{20, 30} {
		ones := api.Tensor{Dims: []int{n, n}, V: make([]api.Fix, n*n)}
		for i := range n {
			ones.V[i*n+i] = api.One
		}
		got, err := matm.Mul(ones, a)
		if n == 30 {
			got, err = matm.Mul(a, ones)
		}
		want(t, fmt.Sprintf("Mul of a matrix and %d ones", n), got, err, a)
	}
}

func TestMulOfNoTensor(t *testing.T) {
	// Beside such as fit, as do not fit, and as have no two sides: EARG is ahead of all.
	others := append(noTensors(), tensor(nil, 1), counted([]int{3}), counted([]int{2, 3}), counted([]int{3, 2}), counted([]int{1, 2, 3}), counted([]int{1, 2, 3, 1}), counted([]int{64, 64}))
	for _, none := range noTensors() {
		for _, other := range others {
			got, err := matm.Mul(none, other)
			refused(t, fmt.Sprintf("Mul of %v and %v", short(none), short(other)), got, err, api.EARG)
			got, err = matm.Mul(other, none)
			refused(t, fmt.Sprintf("Mul of %v and %v", short(other), short(none)), got, err, api.EARG)
		}
	}
}

func TestMulOfShapesThatDoNotFit(t *testing.T) {
	for _, c := range [][2][]int{
		// Not two sides.
		{nil, nil}, {nil, {1, 1}}, {{1, 1}, nil}, {{3}, {3}}, {{2, 3}, {3}}, {{3}, {3, 2}}, {{1}, {1}}, {{1}, {1, 1}}, {{1, 1}, {1}},
		{{2, 3, 1}, {3, 2}}, {{1, 2, 3}, {3, 2}}, {{2, 3}, {3, 2, 1}}, {{2, 3}, {1, 3, 2}}, {{2, 3, 1, 1}, {3, 2}}, {{2, 3}, {3, 2, 1, 1}}, {{1, 1, 1, 1}, {1, 1, 1, 1}}, {{2, 2, 2}, {2, 2, 2}}, {{4096}, {4096}},
		// Two sides that do not meet: a side of 1 is not spread.
		{{2, 3}, {2, 3}}, {{2, 3}, {4, 2}}, {{2, 1}, {2, 1}}, {{2, 3}, {1, 3}}, {{2, 1}, {3, 2}}, {{1, 2}, {1, 2}}, {{1, 1}, {2, 1}}, {{1, 2}, {1, 1}}, {{64, 64}, {63, 65}},
		// They would be no shape either: ESHAPE is named first.
		{{4096, 1}, {2, 2048}}, {{65, 1}, {2, 64}}, {{1000, 4}, {3, 1000}},
	} {
		got, err := matm.Mul(counted(c[0]), counted(c[1]))
		refused(t, fmt.Sprintf("Mul of %v and %v", c[0], c[1]), got, err, api.ESHAPE)
	}
}

func TestMulBeyondTheLimit(t *testing.T) {
	for _, c := range [][2][]int{
		{{65, 1}, {1, 64}}, {{64, 1}, {1, 65}}, {{4096, 1}, {1, 2}}, {{2, 1}, {1, 4096}}, {{4096, 1}, {1, 4096}}, {{2048, 2}, {2, 3}}, {{17, 3}, {3, 241}}, {{100, 40}, {40, 100}},
	} {
		got, err := matm.Mul(counted(c[0]), counted(c[1]))
		refused(t, fmt.Sprintf("Mul of %v and %v", c[0], c[1]), got, err, api.ELIMIT)
	}
	got, err := matm.Mul(counted([]int{64, 1}), counted([]int{1, 64}))
	want(t, "Mul at the limit", got, err, exactMul(counted([]int{64, 1}), counted([]int{1, 64})))
}

func TestFlip(t *testing.T) {
	for _, c := range []struct{ a, want api.Tensor }{
		{counted([]int{2, 3}), tensor([]int{3, 2}, 1, 4, 2, 5, 3, 6)},
		{counted([]int{3, 2}), tensor([]int{2, 3}, 1, 3, 5, 2, 4, 6)},
		{counted([]int{3, 3}), tensor([]int{3, 3}, 1, 4, 7, 2, 5, 8, 3, 6, 9)},
		{counted([]int{1, 4}), tensor([]int{4, 1}, 1, 2, 3, 4)},
		{counted([]int{4, 1}), tensor([]int{1, 4}, 1, 2, 3, 4)},
		{tensor([]int{1, 1}, 5), tensor([]int{1, 1}, 5)},
		{tensor([]int{2, 2}, top, low, 0, -1), tensor([]int{2, 2}, top, 0, low, -1)},
	} {
		got, err := matm.Flip(c.a)
		want(t, fmt.Sprintf("Flip of %v", c.a), got, err, c.want)
	}
}

func TestFlipOfManyShapes(t *testing.T) {
	for _, d := range someShapes() {
		a := counted(d)
		got, err := matm.Flip(a)
		if len(d) != 2 {
			refused(t, fmt.Sprintf("Flip of shape %v", d), got, err, api.ESHAPE)
			continue
		}
		wanted := api.Tensor{Dims: []int{d[1], d[0]}}
		for j := range d[1] {
			for i := range d[0] {
				wanted.V = append(wanted.V, numberAt(a, []int{i, j}))
			}
		}
		want(t, fmt.Sprintf("Flip of shape %v", d), got, err, wanted)
		back, err := matm.Flip(got)
		want(t, fmt.Sprintf("Flip, twice, of shape %v", d), back, err, a)
	}
}

func TestFlipOfNoTensor(t *testing.T) {
	for _, none := range noTensors() {
		got, err := matm.Flip(none)
		refused(t, fmt.Sprintf("Flip of %v", short(none)), got, err, api.EARG)
	}
}
