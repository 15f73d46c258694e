package model_test

import (
	"fmt"
	"slices"
	"testing"

	"carousel/api"
	"carousel/model"
	"carousel/tape"
)

// inRoom lays a list in a wider one, so that there is room ahead of it and spare room behind it.
func inRoom[T any](list []T, other T) (room, part []T) {
	room = slices.Concat([]T{other, other}, list, slices.Repeat([]T{other}, 5))
	return room, room[2 : 2+len(list)]
}

// spoil writes over a list, its spare room included.
func spoil[T any](list []T, with T) {
	for i := range list[:cap(list)] {
		list[:cap(list)][i] = with
	}
}

func someNets() []model.Net {
	var all []model.Net
	for _, c := range allRuns() {
		n, _ := model.Parse(c.text)
		all = append(all, n)
	}
	return append(all, row(2, skip()), row(0), model.Net{}, row(1024, dense(4)), row(2, again(17, bend(1))...))
}

func TestNetsStayAsTheyWere(t *testing.T) {
	for _, n := range someNets() {
		in, a := inRoom(n.In, 9)
		list, b := inRoom(n.Layers, dense(9))
		inWas, listWas := slices.Clone(in), slices.Clone(list)
		laid := model.Net{In: a, Layers: b}
		model.Text(laid)
		model.Params(laid)
		if d, err := model.Shapes(laid); err == api.OK {
			for _, s := range d {
				spoil(s, 99)
			}
			p, _ := model.Params(laid)
			model.Run(tape.New(), laid, make([]api.Fix, p), make([]api.Fix, sizeOf(n.In)))
		}
		if !slices.Equal(in, inWas) || !slices.Equal(list, listWas) {
			t.Errorf("P12.1: %v, or the room about it, is changed", shortLayers(n))
		}
	}
}

func TestRunLeavesWhatIsHandedIn(t *testing.T) {
	for _, c := range allRuns() {
		numbers, p := inRoom(c.p, 9)
		ins, v := inRoom(c.x, 9)
		numbersWas, insWas := slices.Clone(numbers), slices.Clone(ins)
		x := tape.New()
		out, params, _ := model.Run(x, net(t, c.text), p, v)
		for _, n := range append(params, out) {
			node, _ := x.At(n)
			spoil(node.T.V, 99)
		}
		model.Run(x, net(t, c.text), p[:max(len(p)-1, 0)], v[:len(v)-1])
		if !slices.Equal(numbers, numbersWas) || !slices.Equal(ins, insWas) {
			t.Errorf("P12.2: Run of %q: numbers handed in, or the room about them, are changed", c.text)
		}
	}
}

func TestRunKeepsNothing(t *testing.T) {
	for _, c := range allRuns() {
		n := net(t, c.text)
		p, v := slices.Clone(c.p), slices.Clone(c.x)
		x := tape.New()
		_, params, _ := model.Run(x, n, p, v)
		spoil(p, 99)
		spoil(v, 99)
		spoil(n.In, 99)
		spoil(n.Layers, dense(99))
		spoil(params, 99)
		holds(t, fmt.Sprintf("%q, all changed behind the call", c.text), x, c.nodes)
	}
}

// One list may be handed in as both, or as pieces of one another.
func TestRunOfOneListAsBoth(t *testing.T) {
	both := whole(1, 2)
	x := tape.New()
	out, _, err := model.Run(x, net(t, "in 2 2 conv 1 2"), append(both, both...), append(both, both...))
	if v, _ := x.Value(out); err != api.OK || !alike(v, tensor([]int{1, 1}, whole(10)...)) {
		t.Errorf("P12.2: one list as both: %v, %d, want 10", v, err)
	}
	all := whole(1, 2, 3, 4)
	y := tape.New()
	out, _, err = model.Run(y, net(t, "in 2 dense 1"), all[:3], all[1:3])
	if v, _ := y.Value(out); err != api.OK || !alike(v, line(whole(11)...)) {
		t.Errorf("P12.2: pieces of one list: %v, %d, want 11", v, err)
	}
}

func TestShapesAreNewMemory(t *testing.T) {
	for _, n := range someNets() {
		wanted, err := model.Shapes(n)
		if err != api.OK {
			continue
		}
		got, _ := model.Shapes(n)
		for i := range got {
			fresh, _ := model.Shapes(n)
			spoil(fresh[i], 99)
			_ = append(fresh[i], 98, 98)
			for k := range fresh {
				if k != i && !slices.Equal(fresh[k], wanted[k]) {
					t.Errorf("P12.1: Shapes(%v): the %d-th and the %d-th share memory", n, i, k)
				}
			}
		}
		if again, _ := model.Shapes(n); !alikeShapes(again, wanted) || !alikeShapes(got, wanted) {
			t.Errorf("P12.1: Shapes(%v): two answers share memory", n)
		}
	}
}

func TestNetsAreNewMemory(t *testing.T) {
	for text, wanted := range ordinary() {
		first, second := net(t, text), net(t, text)
		spoil(first.In, 99)
		spoil(first.Layers, dense(99))
		if third := net(t, text); !alikeNets(second, wanted) || !alikeNets(third, wanted) {
			t.Errorf("P12.1: Parse(%q): two answers share memory", text)
		}
	}
}

func TestPlacesAreNewMemory(t *testing.T) {
	for _, c := range allRuns() {
		x := tape.New()
		_, first, _ := model.Run(x, net(t, c.text), c.p, c.x)
		_, second, _ := model.Run(tape.New(), net(t, c.text), c.p, c.x)
		spoil(first, 99)
		if !slices.Equal(second, c.params) {
			t.Errorf("P12.2: Run of %q: two answers share memory", c.text)
		}
		holds(t, fmt.Sprintf("%q, its answer changed", c.text), x, c.nodes)
	}
}
