package shape_test

import (
	"math"
	"slices"
	"testing"

	"carousel/api"
	"carousel/shape"
)

// joinOf reckons a Join by another road: both are filled up with ones ahead, and then compared.
func joinOf(a, b []int) ([]int, api.Errno) {
	if sizeOf(a) == 0 || sizeOf(b) == 0 {
		return nil, api.EARG
	}
	n := max(len(a), len(b))
	a = slices.Concat(slices.Repeat([]int{1}, n-len(a)), a)
	b = slices.Concat(slices.Repeat([]int{1}, n-len(b)), b)
	var both []int
	for i := range n {
		if a[i] != b[i] && min(a[i], b[i]) != 1 {
			return nil, api.ESHAPE
		}
		both = append(both, max(a[i], b[i]))
	}
	if sizeOf(both) == 0 {
		return nil, api.ELIMIT
	}
	return both, api.OK
}

// checkJoin asks both ways round: no sentence of the chapter tells one side from the other.
func checkJoin(t *testing.T, a, b, want []int, err api.Errno) {
	t.Helper()
	if got, e := shape.Join(a, b); !slices.Equal(got, want) || e != err {
		t.Errorf("P5.2: Join(%v, %v): %v, %d, want %v, %d", a, b, got, e, want, err)
	}
	if got, e := shape.Join(b, a); !slices.Equal(got, want) || e != err {
		t.Errorf("P5.2: Join(%v, %v): %v, %d, want %v, %d", b, a, got, e, want, err)
	}
}

func TestJoin(t *testing.T) {
	for _, c := range []struct{ a, b, want []int }{
		{[]int{2, 3}, []int{3}, []int{2, 3}},
		{nil, nil, nil},
		{nil, []int{1}, []int{1}},
		{nil, []int{2, 3, 4, 5}, []int{2, 3, 4, 5}},
		{[]int{1}, []int{1}, []int{1}},
		{[]int{1}, []int{7}, []int{7}},
		{[]int{7}, []int{7}, []int{7}},
		{[]int{1}, []int{2, 3}, []int{2, 3}},
		{[]int{2, 1}, []int{1, 3}, []int{2, 3}},
		{[]int{2, 1}, []int{3}, []int{2, 3}},
		{[]int{2, 3}, []int{2, 3}, []int{2, 3}},
		{[]int{2, 3}, []int{2, 1}, []int{2, 3}},
		{[]int{1, 1, 1}, []int{5}, []int{1, 1, 5}},
		{[]int{1, 1, 1, 1}, nil, []int{1, 1, 1, 1}},
		{[]int{2, 1, 4, 1}, []int{3, 1, 5}, []int{2, 3, 4, 5}},
		{[]int{4096}, []int{1, 1, 1, 1}, []int{1, 1, 1, 4096}},
		{[]int{4096}, []int{4096}, []int{4096}},
		{[]int{64, 1}, []int{1, 64}, []int{64, 64}},
		{[]int{8, 1, 8, 1}, []int{8, 1, 8}, []int{8, 8, 8, 8}},
	} {
		checkJoin(t, c.a, c.b, c.want, api.OK)
	}
}

func TestJoinRefuses(t *testing.T) {
	for _, c := range []struct {
		a, b []int
		err  api.Errno
	}{
		{[]int{2}, []int{3}, api.ESHAPE},
		{[]int{2, 3}, []int{2}, api.ESHAPE},
		{[]int{2, 3}, []int{3, 2}, api.ESHAPE},
		{[]int{3, 2}, []int{2, 2}, api.ESHAPE},
		{[]int{2, 3, 4, 5}, []int{3, 3, 4, 5}, api.ESHAPE},
		{[]int{2, 4}, []int{4, 4}, api.ESHAPE},
		{[]int{64, 1}, []int{1, 65}, api.ELIMIT},
		{[]int{64, 1}, []int{65}, api.ELIMIT},
		{[]int{4096, 1}, []int{2}, api.ELIMIT},
		{[]int{4096, 1}, []int{1, 4096}, api.ELIMIT},
		{[]int{8, 1, 8, 1}, []int{8, 1, 9}, api.ELIMIT},
		{[]int{0}, []int{3}, api.EARG},
		{[]int{-1}, nil, api.EARG},
		{[]int{4097}, []int{1}, api.EARG},
		{[]int{64, 65}, []int{64, 65}, api.EARG},
		{[]int{1, 1, 1, 1, 1}, []int{1}, api.EARG},
		{[]int{math.MaxInt}, []int{1}, api.EARG},
		{[]int{math.MinInt}, []int{1}, api.EARG},
		{[]int{1 << 32, 1 << 32}, []int{1}, api.EARG},
	} {
		checkJoin(t, c.a, c.b, nil, c.err)
	}
}

func TestWhichErrorOfJoinIsFirst(t *testing.T) {
	for _, c := range []struct {
		a, b []int
		err  api.Errno
	}{
		{[]int{0, 2}, []int{3}, api.EARG},
		{[]int{2, 0}, []int{3, 1}, api.EARG},
		{[]int{4097}, []int{2}, api.EARG},
		{[]int{4097, 1}, []int{4096}, api.EARG},
		{[]int{1, 1, 1, 1, 2}, []int{3}, api.EARG},
		{[]int{64, 1, 65}, []int{1, 65, 1}, api.EARG},
		// Unlike ones ahead of, between and behind those that come to too many.
		{[]int{2, 64, 1}, []int{3, 1, 65}, api.ESHAPE},
		{[]int{64, 2, 1}, []int{1, 3, 65}, api.ESHAPE},
		{[]int{64, 1, 2}, []int{1, 65, 3}, api.ESHAPE},
		{[]int{4096, 1}, []int{2, 4096}, api.EARG},
		{[]int{2048, 1}, []int{2, 2048}, api.ESHAPE},
		{[]int{2, 1, 4}, []int{512, 3}, api.ESHAPE},
	} {
		checkJoin(t, c.a, c.b, nil, c.err)
	}
}

func TestJoinOfEachNoShape(t *testing.T) {
	for _, d := range noShapes() {
		for _, other := range slices.Concat(noShapes(), [][]int{nil, {1}, {2, 3}, {4096}}) {
			checkJoin(t, d, other, nil, api.EARG)
		}
	}
}

func TestJoinOfManyPairs(t *testing.T) {
	all := append(lists(3, 0, 1, 2, 3, 64, 65, 4096), someShapes()...)
	for _, a := range all {
		for _, b := range all {
			want, err := joinOf(a, b)
			if got, e := shape.Join(a, b); !slices.Equal(got, want) || e != err {
				t.Fatalf("P5.2: Join(%v, %v): %v, %d, want %v, %d", a, b, got, e, want, err)
			}
		}
	}
}

func TestFrom(t *testing.T) {
	for _, c := range []struct {
		d, big []int
		want   []int
	}{
		{[]int{3}, []int{2, 3}, []int{0, 1, 2, 0, 1, 2}},
		{[]int{1, 3}, []int{2, 3}, []int{0, 1, 2, 0, 1, 2}},
		{[]int{2, 1}, []int{2, 3}, []int{0, 0, 0, 1, 1, 1}},
		{[]int{2, 3}, []int{2, 3}, []int{0, 1, 2, 3, 4, 5}},
		{[]int{1, 1}, []int{2, 3}, []int{0, 0, 0, 0, 0, 0}},
		{[]int{1}, []int{2, 3}, []int{0, 0, 0, 0, 0, 0}},
		{nil, []int{2, 3}, []int{0, 0, 0, 0, 0, 0}},
		{nil, nil, []int{0}},
		{nil, []int{1}, []int{0}},
		{[]int{1}, []int{1, 1, 1, 1}, []int{0}},
		{[]int{2, 1, 2}, []int{2, 2, 2}, []int{0, 1, 0, 1, 2, 3, 2, 3}},
		{[]int{2, 1}, []int{2, 2, 2}, []int{0, 0, 1, 1, 0, 0, 1, 1}},
	} {
		for at, want := range c.want {
			if got, ok := shape.From(c.d, c.big, at); !ok || got != want {
				t.Errorf("P5.2: From(%v, %v, %d): %d, %v, want %d", c.d, c.big, at, got, ok, want)
			}
		}
	}
}

// checkFrom goes over all of big; its place in d is found by d's own numbers of it.
func checkFrom(t *testing.T, d, big []int) {
	t.Helper()
	place := make([]int, len(big))
	for at := range sizeOf(big) {
		own := slices.Clone(place[len(big)-len(d):])
		for i := range d {
			if d[i] == 1 {
				own[i] = 0
			}
		}
		want := 0
		for i := range d {
			want += own[i] * sizeOf(d[i+1:])
		}
		if got, ok := shape.From(d, big, at); !ok || got != want {
			t.Fatalf("P5.2: From(%v, %v, %d): %d, %v, want %d", d, big, at, got, ok, want)
		}
		onward(big, place)
	}
}

func checkNoFrom(t *testing.T, d, big []int, ats ...int) {
	t.Helper()
	for _, at := range ats {
		if got, ok := shape.From(d, big, at); ok || got != 0 {
			t.Errorf("P5.2: From(%v, %v, %d): %d, %v", d, big, at, got, ok)
		}
	}
}

func TestFromOfManyPairs(t *testing.T) {
	for _, d := range someShapes() {
		for _, big := range someShapes() {
			both, err := joinOf(d, big)
			size := sizeOf(big)
			if err == api.OK && slices.Equal(both, big) {
				checkFrom(t, d, big)
				checkNoFrom(t, d, big, -1, -size, size, size+1, math.MaxInt, math.MinInt)
			} else {
				checkNoFrom(t, d, big, -1, 0, size-1, size)
			}
		}
	}
}

func TestFromWhereJoinIsNotBig(t *testing.T) {
	for _, c := range []struct{ d, big []int }{
		{[]int{2, 3}, []int{3}},
		{[]int{1, 3}, []int{3}},
		{[]int{1}, nil},
		{[]int{3}, []int{1}},
		{[]int{2, 3}, []int{2, 1}},
		{[]int{2}, []int{3}},
		{[]int{2}, []int{2, 3}},
		{[]int{6}, []int{2, 3}},
		{[]int{64, 1}, []int{1, 65}},
		{[]int{1, 65}, []int{64, 1}},
	} {
		checkNoFrom(t, c.d, c.big, 0, 1, 2, 5, -1, math.MaxInt, math.MinInt)
	}
}

func TestFromOfNoShape(t *testing.T) {
	for _, d := range noShapes() {
		for _, other := range [][]int{nil, {1}, {2, 3}, {4096}, d} {
			checkNoFrom(t, d, other, 0, 1, -1, math.MaxInt, math.MinInt)
			checkNoFrom(t, other, d, 0, 1, -1, math.MaxInt, math.MinInt)
		}
	}
}

func TestWhatIsHandedToJoinStays(t *testing.T) {
	all := append(lists(2, 0, 1, 2, 64, 65, 4096), noShapes()...)
	for _, a := range all {
		for _, b := range all {
			roomA, partA := inRoom(a)
			roomB, partB := inRoom(b)
			beforeA, beforeB := slices.Clone(roomA), slices.Clone(roomB)
			answer, _ := shape.Join(partA, partB)
			spoil(answer)
			shape.From(partA, partB, 0)
			if !slices.Equal(roomA, beforeA) || !slices.Equal(roomB, beforeB) {
				t.Fatalf("P5.2: of %v and %v: what was handed in, or the room about it, is changed: %v, %v", a, b, roomA, roomB)
			}
		}
	}
}

func TestJoinAnswersNewMemory(t *testing.T) {
	for _, c := range []struct{ a, b []int }{
		{nil, []int{2, 3}}, {[]int{2, 3}, nil}, {[]int{2, 3}, []int{2, 3}}, {[]int{2, 1}, []int{1, 3}},
	} {
		first, _ := shape.Join(c.a, c.b)
		second, _ := shape.Join(c.a, c.b)
		spoil(first)
		if !slices.Equal(second, []int{2, 3}) {
			t.Errorf("P5.2: two answers of Join(%v, %v) share memory: %v", c.a, c.b, second)
		}
	}
	same := []int{2, 3}
	got, _ := shape.Join(same, same)
	spoil(got)
	if !slices.Equal(same, []int{2, 3}) {
		t.Errorf("P5.2: Join of a list with itself answered that list: %v", same)
	}
}
