package model

import (
	"slices"

	"carousel/api"
)

const maxLayers = 16

// shapesOf tells what comes in, and behind it what goes out of each layer: so what goes into a layer
// stands at its own place. It asks for no limit, as a layer that does not fit is told ahead of those.
func shapesOf(n Net) ([][]int, bool) {
	shapes := [][]int{slices.Clone(n.In)}
	for i, l := range n.Layers {
		if l.Kind == skip && !canSkip(n.Layers, shapes, i) {
			return nil, false
		}
		out, ok := outOf(l, shapes[i])
		if !ok {
			return nil, false
		}
		shapes = append(shapes, out)
	}
	return shapes, true
}

// outOf tells, in new memory, what goes out of a layer.
func outOf(l Layer, in []int) ([]int, bool) {
	switch l.Kind {
	case dense:
		return []int{l.A}, true
	case conv:
		if len(in) != 2 || l.B > in[1] {
			return nil, false
		}
		return []int{l.A, in[1] - l.B + 1}, true
	case pool:
		if len(in) != 2 || l.A > in[1] {
			return nil, false
		}
		return []int{in[0], in[1] / l.A}, true
	}
	return slices.Clone(in), true
}

// canSkip tells whether the layer ahead of the i-th has an in and an out that can be added.
func canSkip(layers []Layer, shapes [][]int, i int) bool {
	return i > 0 && layers[i-1].Kind != skip && slices.Equal(shapes[i-1], shapes[i])
}

// paramsOf tells the shapes of a layer's parameters, in order.
func paramsOf(l Layer, in []int) [][]int {
	switch l.Kind {
	case dense:
		return [][]int{{l.A, sizeOf(in)}, {l.A}}
	case conv:
		return [][]int{{l.A, in[0], l.B}}
	}
	return nil
}

func countParams(n Net, shapes [][]int) int {
	count := 0
	for i, l := range n.Layers {
		for _, d := range paramsOf(l, shapes[i]) {
			count += sizeOf(d)
		}
	}
	return count
}

func tooMuch(n Net, shapes [][]int) bool {
	if len(n.Layers) > maxLayers || slices.ContainsFunc(shapes, tooGreat) {
		return true
	}
	for i, l := range n.Layers {
		if slices.ContainsFunc(paramsOf(l, shapes[i]), tooGreat) {
			return true
		}
	}
	return countParams(n, shapes) > api.MaxParams
}

func tooGreat(d []int) bool { return sizeOf(d) > api.MaxSize }

// sizeOf multiplies sides that are within their bounds: so it can't run over.
func sizeOf(d []int) int {
	size := 1
	for _, side := range d {
		size *= side
	}
	return size
}
