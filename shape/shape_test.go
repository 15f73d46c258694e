package shape_test

import (
	"math"
	"math/big"
	"slices"
	"testing"

	"carousel/api"
	"carousel/shape"
)

// lists answers every list of at most n of the numbers, the empty one first.
func lists(n int, numbers ...int) [][]int {
	all := [][]int{{}}
	begun := all
	for range n {
		var longer [][]int
		for _, d := range begun {
			for _, v := range numbers {
				longer = append(longer, append(slices.Clone(d), v))
			}
		}
		all = append(all, longer...)
		begun = longer
	}
	return all
}

// sizeOf reckons a size from the chapter's words, in numbers without a bound.
func sizeOf(d []int) int {
	product := big.NewInt(1)
	for _, v := range d {
		if v < 1 || v > api.MaxSize {
			return 0
		}
		product.Mul(product, big.NewInt(int64(v)))
	}
	if len(d) > api.MaxDims || product.Cmp(big.NewInt(api.MaxSize)) > 0 {
		return 0
	}
	return int(product.Int64())
}

// onward moves a place to the next one, the last number fastest, as the hands of a clock.
func onward(d, place []int) {
	for i := len(d) - 1; i >= 0; i-- {
		place[i]++
		if place[i] < d[i] {
			return
		}
		place[i] = 0
	}
}

// someShapes are of each length, with sides of 1 in all places, of size 1 and of MaxSize too.
func someShapes() [][]int {
	all := lists(api.MaxDims, 1, 2, 3)
	return append(all, [][]int{
		{4096}, {4095}, {64, 64}, {1, 4096}, {4096, 1}, {2, 2048}, {2048, 2}, {4096, 1, 1, 1}, {1, 1, 1, 4096},
		{16, 16, 16}, {8, 8, 8, 8}, {2, 3, 4, 5}, {5, 4, 3, 2}, {7, 1, 11, 13}, {3, 1365}, {1, 64, 1, 64},
	}...)
}

// noShapes are of every kind that the chapter rules out.
func noShapes() [][]int {
	return [][]int{
		{0}, {-1}, {4097}, {math.MaxInt}, {math.MinInt}, {0, 0}, {-1, -1}, {0, 2}, {2, 0}, {2, 0, 2}, {2, 3, 4, -1},
		{64, 65}, {4096, 2}, {2, 4096}, {2, 2, 2, 513}, {4096, 4096, 4096, 4096}, {2, 2049}, {4096, 4096, 0},
		{1, 1, 1, 1, 1}, {2, 2, 2, 2, 2}, {1, 1, 1, 1, 0}, make([]int, 1000),
		{math.MaxInt, math.MaxInt}, {math.MinInt, 2}, {2, math.MinInt}, {math.MinInt, math.MinInt}, {4096, math.MaxInt},
		// A product of 64 bits wraps round here, to MaxSize or less.
		{1 << 32, 1 << 32}, {1<<32 + 1, 1<<32 - 1, 2}, {1 << 62, 4}, {3, 0x5555555555555556}, {4096, 1<<52 + 1}, slices.Repeat([]int{4096}, 6),
		// Two below 0 come to a size that may be.
		{-1, -4096}, {-64, -64}, {-2, 3, -4},
	}
}

func TestSizesThatTheDocumentNames(t *testing.T) {
	for _, c := range []struct {
		d    []int
		size int
	}{
		{nil, 1}, {[]int{}, 1},
		{[]int{1}, 1}, {[]int{1, 1}, 1}, {[]int{1, 1, 1, 1}, 1}, {[]int{1, 1, 1, 1, 1}, 0},
		{[]int{2, 3, 4, 5}, 120}, {[]int{2, 3, 4, 5, 1}, 0}, {[]int{7}, 7}, {[]int{3, 5}, 15}, {[]int{3, 5, 7}, 105},
		{[]int{0}, 0}, {[]int{2, 0}, 0}, {[]int{-1}, 0}, {[]int{-2, -3}, 0},
		{[]int{4095}, 4095}, {[]int{4096}, 4096}, {[]int{4097}, 0},
		{[]int{1, 4096}, 4096}, {[]int{4096, 1}, 4096}, {[]int{1, 4097}, 0}, {[]int{4097, 1}, 0},
		{[]int{64, 64}, 4096}, {[]int{64, 65}, 0}, {[]int{65, 64}, 0}, {[]int{63, 65}, 4095},
		{[]int{8, 8, 8, 8}, 4096}, {[]int{8, 8, 8, 9}, 0}, {[]int{9, 8, 8, 8}, 0}, {[]int{3, 1365}, 4095}, {[]int{3, 1366}, 0},
		{[]int{math.MaxInt}, 0}, {[]int{math.MinInt}, 0}, {[]int{1, math.MaxInt}, 0}, {[]int{math.MinInt, 1}, 0},
	} {
		if got := shape.Size(c.d); got != c.size {
			t.Errorf("P5.1: Size(%v): %d, want %d", c.d, got, c.size)
		}
		if got := shape.Good(c.d); got != (c.size > 0) {
			t.Errorf("P5.1: Good(%v): %v", c.d, got)
		}
	}
}

func TestSizesOfManyLists(t *testing.T) {
	all := lists(4, math.MinInt, -1, 0, 1, 2, 3, 8, 64, 65, 512, 2048, 4095, 4096, 4097, 1<<32, math.MaxInt)
	all = append(all, lists(6, 0, 1, 2)...)
	for _, d := range slices.Concat(all, someShapes(), noShapes()) {
		want := sizeOf(d)
		if got := shape.Size(d); got != want || shape.Good(d) != (want > 0) {
			t.Fatalf("P5.1: of %v: Size %d, Good %v, want %d", d, got, shape.Good(d), want)
		}
	}
}

func TestSizesAtTheirBound(t *testing.T) {
	for first := 1; first <= api.MaxSize; first++ {
		most := api.MaxSize / first
		if got := shape.Size([]int{first, most}); got != first*most {
			t.Errorf("P5.1: Size of %d %d: %d", first, most, got)
		}
		if got := shape.Size([]int{first, most + 1}); got != 0 {
			t.Errorf("P5.1: Size of %d %d: %d, want 0", first, most+1, got)
		}
	}
}

func TestSame(t *testing.T) {
	for i, a := range slices.Concat(someShapes()[:40], noShapes()) {
		for j, b := range slices.Concat(someShapes()[:40], noShapes()) {
			if got := shape.Same(a, b); got != (i == j) {
				t.Errorf("P5.1: Same(%v, %v): %v", a, b, got)
			}
		}
	}
	if !shape.Same(nil, nil) || !shape.Same(nil, []int{}) || !shape.Same([]int{}, nil) {
		t.Errorf("P5.1: Same: nil and an empty list are one")
	}
	if shape.Same(nil, []int{1}) || shape.Same([]int{1}, nil) || shape.Same([]int{2, 3}, []int{2, 3, 1}) || shape.Same([]int{2, 3}, []int{1, 2, 3}) {
		t.Errorf("P5.1: Same of lists of unlike length")
	}
	if shape.Same([]int{2, 6}, []int{3, 4}) || shape.Same([]int{2, 3}, []int{3, 2}) || shape.Same([]int{1}, []int{5}) {
		t.Errorf("P5.1: Same of lists of one size, or of one length")
	}
}

func TestStrides(t *testing.T) {
	for _, c := range []struct{ d, want []int }{
		{nil, nil}, {[]int{1}, []int{1}}, {[]int{4096}, []int{1}},
		{[]int{2, 3}, []int{3, 1}}, {[]int{2, 3, 4}, []int{12, 4, 1}}, {[]int{2, 3, 4, 5}, []int{60, 20, 5, 1}},
		{[]int{1, 4096}, []int{4096, 1}}, {[]int{4096, 1}, []int{1, 1}}, {[]int{1, 1, 1, 1}, []int{1, 1, 1, 1}}, {[]int{3, 1, 5}, []int{5, 5, 1}},
	} {
		if got := shape.Strides(c.d); !slices.Equal(got, c.want) {
			t.Errorf("P5.1: Strides(%v): %v, want %v", c.d, got, c.want)
		}
	}
	for _, d := range noShapes() {
		if got := shape.Strides(d); len(got) != 0 {
			t.Errorf("P5.1: Strides(%v), no shape: %v", d, got)
		}
	}
}

func TestStridesTellHowFarItIs(t *testing.T) {
	for _, d := range someShapes() {
		strides := shape.Strides(d)
		if len(strides) != len(d) {
			t.Fatalf("P5.1: Strides(%v): %v", d, strides)
		}
		for i := range d {
			place := make([]int, len(d))
			place[i] = d[i] - 1
			if at, ok := shape.At(d, place); !ok || at != (d[i]-1)*strides[i] {
				t.Errorf("P5.1: Strides(%v): %v, but At(%v): %d, %v", d, strides, place, at, ok)
			}
		}
	}
}

func TestAtAndPlaceOverWholeShapes(t *testing.T) {
	for _, d := range someShapes() {
		place := make([]int, len(d))
		for want := range sizeOf(d) {
			if at, ok := shape.At(d, place); !ok || at != want {
				t.Fatalf("P5.1: At(%v, %v): %d, %v, want %d", d, place, at, ok, want)
			}
			if got, ok := shape.Place(d, want); !ok || !slices.Equal(got, place) {
				t.Fatalf("P5.1: Place(%v, %d): %v, %v, want %v", d, want, got, ok, place)
			}
			onward(d, place)
		}
	}
}

func TestAtOfNoSuchPlace(t *testing.T) {
	for _, d := range someShapes() {
		last, _ := shape.Place(d, sizeOf(d)-1)
		wrong := [][]int{append(slices.Clone(last), 0), append([]int{0}, last...), make([]int, 1000)}
		if len(d) > 0 {
			wrong = append(wrong, nil, last[1:], last[:len(d)-1])
		}
		for i := range d {
			for _, v := range []int{-1, d[i], d[i] + 1, -d[i], 4096, math.MaxInt, math.MinInt} {
				place := slices.Clone(last)
				place[i] = v
				wrong = append(wrong, place)
			}
		}
		for _, place := range wrong {
			if at, ok := shape.At(d, place); ok || at != 0 {
				t.Errorf("P5.1: At(%v, %v): %d, %v", d, place, at, ok)
			}
		}
	}
}

// A place that lies outside along one side may come to a number that is there.
func TestAtOfAPlaceThatIsMadeGoodByAnother(t *testing.T) {
	d := []int{2, 3}
	for _, place := range [][]int{{0, 3}, {0, 5}, {1, -1}, {1, -3}, {-1, 4}, {2, -1}} {
		if at, ok := shape.At(d, place); ok || at != 0 {
			t.Errorf("P5.1: At(%v, %v): %d, %v", d, place, at, ok)
		}
	}
}

func TestPlaceOfNoSuchNumber(t *testing.T) {
	for _, d := range someShapes() {
		size := sizeOf(d)
		for _, at := range []int{-1, -size, size, size + 1, 2 * size, math.MaxInt, math.MinInt, math.MinInt + 1} {
			if place, ok := shape.Place(d, at); ok || len(place) != 0 {
				t.Errorf("P5.1: Place(%v, %d): %v, %v", d, at, place, ok)
			}
		}
	}
}

func TestAtAndPlaceOfNoShape(t *testing.T) {
	for _, d := range noShapes() {
		for _, place := range [][]int{nil, make([]int, len(d)), slices.Repeat([]int{-1}, len(d)), {0}} {
			if at, ok := shape.At(d, place); ok || at != 0 {
				t.Errorf("P5.1: At(%v, %v), no shape: %d, %v", d, place, at, ok)
			}
		}
		for _, at := range []int{0, 1, -1, math.MaxInt, math.MinInt} {
			if place, ok := shape.Place(d, at); ok || len(place) != 0 {
				t.Errorf("P5.1: Place(%v, %d), no shape: %v, %v", d, at, place, ok)
			}
		}
	}
}

func TestAtAndPlaceOfNoNumberAtAll(t *testing.T) {
	for _, d := range [][]int{nil, {}} {
		for _, place := range [][]int{nil, {}} {
			if at, ok := shape.At(d, place); !ok || at != 0 {
				t.Errorf("P5.1: At(%#v, %#v): %d, %v", d, place, at, ok)
			}
		}
		if place, ok := shape.Place(d, 0); !ok || len(place) != 0 {
			t.Errorf("P5.1: Place(%#v, 0): %v, %v", d, place, ok)
		}
		if place, ok := shape.Place(d, 1); ok || len(place) != 0 {
			t.Errorf("P5.1: Place(%#v, 1): %v, %v", d, place, ok)
		}
	}
}

// inRoom lays d in a wider list, so that there is room ahead of it and spare room behind it.
func inRoom(d []int) (room, part []int) {
	room = slices.Concat([]int{9, 9}, d, []int{9, 9, 9, 9, 9})
	return room, room[2 : 2+len(d)]
}

// spoil writes over a list, its spare room included.
func spoil(d []int) {
	d = d[:cap(d)]
	for i := range d {
		d[i] = 99
	}
}

func TestWhatIsHandedInStays(t *testing.T) {
	for _, d := range slices.Concat(someShapes(), noShapes()) {
		room, part := inRoom(d)
		placeRoom, place := inRoom(make([]int, len(d)))
		before, placeBefore := slices.Clone(room), slices.Clone(placeRoom)
		shape.Good(part)
		shape.Size(part)
		shape.Same(part, part)
		shape.At(part, place)
		spoil(shape.Strides(part))
		for _, at := range []int{0, shape.Size(part) - 1} {
			answer, _ := shape.Place(part, at)
			spoil(answer)
		}
		if !slices.Equal(room, before) || !slices.Equal(placeRoom, placeBefore) {
			t.Errorf("P5.1: of %v: what was handed in, or the room about it, is changed: %v, %v", d, room, placeRoom)
		}
	}
}

func TestAnswersAreNewMemory(t *testing.T) {
	d := []int{2, 3, 4}
	spoil(shape.Strides(d))
	if got := shape.Strides(d); !slices.Equal(got, []int{12, 4, 1}) {
		t.Errorf("P5.1: Strides, asked again: %v", got)
	}
	first, _ := shape.Place(d, 23)
	second, _ := shape.Place(d, 23)
	spoil(first)
	if !slices.Equal(second, []int{1, 2, 3}) {
		t.Errorf("P5.1: two answers of Place share memory: %v", second)
	}
}
