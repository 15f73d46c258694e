package grad_test

import (
	"slices"
	"testing"

	"carousel/api"
	"carousel/grad"
	"carousel/model"
)

// inRoom lays a list in a wider one, so that there is room ahead of it and spare room behind it.
func inRoom[T any](list []T, other T) (room, part []T) {
	room = slices.Concat([]T{other, other}, list, slices.Repeat([]T{other}, 5))
	return room, room[2 : 2+len(list)]
}

// spoil writes over a list, its spare room included.
func spoil[T any](list []T, with T) {
	for i := range list[:cap(list)] {
		list[:cap(list)][i] = with
	}
}

// rooms are those about the lists that go into a call.
type rooms struct {
	in      []int
	layers  []layer
	numbers [][]api.Fix
	list    []grad.Example
}

// handed is all that goes into a call, each list within a room that is watched.
type handed struct {
	n        model.Net
	p        []api.Fix
	l        []grad.Example
	now, was rooms
}

func handIn(n model.Net, p []api.Fix, l ...grad.Example) *handed {
	h := &handed{}
	h.now.in, h.n.In = inRoom(n.In, 9)
	h.now.layers, h.n.Layers = inRoom(n.Layers, dense(9))
	h.p = h.numbers(p)
	for _, e := range l {
		h.l = append(h.l, grad.Example{X: h.numbers(e.X), Y: h.numbers(e.Y), Class: e.Class})
	}
	h.now.list, h.l = inRoom(h.l, grad.Example{Class: 9})
	h.was = rooms{in: slices.Clone(h.now.in), layers: slices.Clone(h.now.layers), list: slices.Clone(h.now.list)}
	for _, v := range h.now.numbers {
		h.was.numbers = append(h.was.numbers, slices.Clone(v))
	}
	return h
}

func (h *handed) numbers(v []api.Fix) []api.Fix {
	room, part := inRoom(v, 9)
	h.now.numbers = append(h.now.numbers, room)
	return part
}

// sameList asks for one piece of memory, not only for alike numbers.
func sameList(a, b []api.Fix) bool {
	return len(a) == len(b) && cap(a) == cap(b) && (cap(a) == 0 || &a[:1][0] == &b[:1][0])
}

func sameExample(a, b grad.Example) bool {
	return sameList(a.X, b.X) && sameList(a.Y, b.Y) && a.Class == b.Class
}

func (h *handed) stays(t *testing.T, what string) {
	t.Helper()
	if !slices.Equal(h.now.in, h.was.in) || !slices.Equal(h.now.layers, h.was.layers) {
		t.Errorf("P14.1: %s: the net, or the room about it, is changed", what)
	}
	if !slices.EqualFunc(h.now.numbers, h.was.numbers, slices.Equal[[]api.Fix]) {
		t.Errorf("P14.1: %s: numbers handed in, or the room about them, are changed", what)
	}
	if !slices.EqualFunc(h.now.list, h.was.list, sameExample) {
		t.Errorf("P14.1: %s: the list of examples, or the room about it, is changed", what)
	}
}

// With what is refused, too, all that was handed in stays as it was.
func TestWhatIsHandedInStays(t *testing.T) {
	for _, c := range allMade() {
		h := handIn(net(t, c.text), c.p, c.e, c.e, grad.Example{X: c.e.X[1:]}, c.e)
		for _, kind := range []int{c.kind, 0, 1, 2, 3, 4} {
			for _, p := range [][]api.Fix{h.p, h.p[:max(len(h.p)-1, 0)]} {
				for many := range h.l {
					row, _, _ := grad.Of(h.n, kind, p, h.l[many])
					spoil(row, 99)
					sum, _, _ := grad.Sum(h.n, kind, p, h.l[:many+1])
					spoil(sum, api.Wide{Hi: 99})
				}
				sum, _, _ := grad.Sum(h.n, kind, p, h.l[:0])
				spoil(sum, api.Wide{Hi: 99})
			}
		}
		h.stays(t, c.what())
	}
	for _, w := range wrongNets() {
		h := handIn(w.n, whole(1, 2, 3), good(square), good(hinge))
		for _, kind := range append(kinds(), 0) {
			grad.Of(h.n, kind, h.p, h.l[0])
			grad.Sum(h.n, kind, h.p, h.l)
			grad.Sum(h.n, kind, h.p, nil)
		}
		h.stays(t, w.what)
	}
}

// What is changed behind a call, of what was handed in or told, is not to be seen in any answer.
func TestAnswersAreNewMemory(t *testing.T) {
	for _, c := range allMade() {
		h := handIn(net(t, c.text), c.p, c.e, c.e)
		row, far, _ := grad.Of(h.n, c.kind, h.p, h.l[0])
		again, _, _ := grad.Of(h.n, c.kind, h.p, h.l[0])
		sum, all, _ := grad.Sum(h.n, c.kind, h.p, h.l)
		twice, _, _ := grad.Sum(h.n, c.kind, h.p, h.l)
		none, _, _ := grad.Sum(h.n, c.kind, h.p, nil)
		spoil(again, 99)
		spoil(twice, api.Wide{Hi: 99})
		spoil(h.now.in, 99)
		spoil(h.now.layers, dense(99))
		for _, v := range h.now.numbers {
			spoil(v, 99)
		}
		spoil(h.now.list, grad.Example{Class: 99})
		if !slices.Equal(row, c.row) || far != c.far {
			t.Errorf("P14.1: Of %s: %v, %d behind changes, want %v, %d", c.what(), row, far, c.row, c.far)
		}
		if !slices.Equal(sum, wides(2, c.row...)) || all != wides(2, c.far)[0] {
			t.Errorf("P14.1: Sum %s: %v, %v behind changes", c.what(), sum, all)
		}
		if !slices.Equal(none, make([]api.Wide, len(c.p))) {
			t.Errorf("P14.1: Sum of none, %s: %v behind changes", c.what(), none)
		}
		n := net(t, c.text)
		reckons(t, c.what()+", once more", n, c.kind, c.p, c.e, c.row, c.far)
		sums(t, c.what()+", once more", n, c.kind, c.p, []grad.Example{c.e, c.e}, wides(2, c.row...), wides(2, c.far)[0])
		sums(t, c.what()+", once more of none", n, c.kind, c.p, nil, make([]api.Wide, len(c.p)), api.Wide{})
	}
}

// One list may be the parameters, what comes in and what is wanted, or pieces of one another.
func TestOneListAsAll(t *testing.T) {
	all := whole(2, 1, 3)
	reckons(t, "of one list", net(t, "in 1 dense 1"), square, all[:2], toward(all[2:], all[1:2]), whole(36, 12), 36*one)
	reckons(t, "of one list as both", net(t, "in 3 bend 1"), size, nil, toward(all, all), nil, 0)
	if !slices.Equal(all, whole(2, 1, 3)) {
		t.Errorf("P14.1: one list as all of them is changed: %v", all)
	}
}

func TestJoinsMemory(t *testing.T) {
	other := api.Wide{Hi: 9, Lo: 9}
	for many := range 5 {
		v := wides(1, []api.Fix{5, -one, top, low, 0}[:many]...)
		roomA, a := inRoom(v, other)
		roomB, b := inRoom(v, other)
		wasA, wasB := slices.Clone(roomA), slices.Clone(roomB)
		c, _ := grad.Join(a, b)
		d, _ := grad.Join(a, b)
		same, _ := grad.Join(a, a)
		wanted := slices.Clone(c)
		refused, _ := grad.Join(roomA, a)
		spoil(d, other)
		spoil(refused, other)
		if !slices.Equal(roomA, wasA) || !slices.Equal(roomB, wasB) {
			t.Errorf("P14.1: Join of %d: a row, or the room about it, is changed", many)
		}
		spoil(roomA, other)
		spoil(roomB, other)
		if !slices.Equal(c, wanted) || !slices.Equal(same, wanted) {
			t.Errorf("P14.1: Join of %d: %v, %v behind changes, want %v", many, c, same, wanted)
		}
	}
}
