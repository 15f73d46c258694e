package model_test

import (
	"slices"
	"testing"

	"carousel/api"
	"carousel/model"
)

func TestShapesOfEachKind(t *testing.T) {
	shaped(t, row(3), []int{3})
	shaped(t, rows(2, 3), []int{2, 3})
	shaped(t, row(3, dense(5)), []int{3}, []int{5})
	shaped(t, rows(2, 3, dense(5)), []int{2, 3}, []int{5})
	shaped(t, rows(2, 3, dense(6), dense(2)), []int{2, 3}, []int{6}, []int{2})
	shaped(t, rows(2, 5, conv(3, 1)), []int{2, 5}, []int{3, 5})
	shaped(t, rows(2, 5, conv(3, 2)), []int{2, 5}, []int{3, 4})
	shaped(t, rows(2, 5, conv(3, 5)), []int{2, 5}, []int{3, 1})
	shaped(t, rows(2, 5, conv(3, 2), conv(1, 4)), []int{2, 5}, []int{3, 4}, []int{1, 1})
	shaped(t, rows(2, 5, pool(1)), []int{2, 5}, []int{2, 5})
	shaped(t, rows(2, 5, pool(2)), []int{2, 5}, []int{2, 2})
	shaped(t, rows(2, 5, pool(3)), []int{2, 5}, []int{2, 1})
	shaped(t, rows(2, 5, pool(5)), []int{2, 5}, []int{2, 1})
	shaped(t, rows(3, 64, pool(16)), []int{3, 64}, []int{3, 4})
	shaped(t, row(3, bend(2)), []int{3}, []int{3})
	shaped(t, rows(2, 3, bend(2)), []int{2, 3}, []int{2, 3})
	shaped(t, row(3, bend(2), skip()), []int{3}, []int{3}, []int{3})
	shaped(t, row(3, dense(3), skip()), []int{3}, []int{3}, []int{3})
	shaped(t, rows(2, 3, bend(2), skip()), []int{2, 3}, []int{2, 3}, []int{2, 3})
	shaped(t, rows(2, 3, conv(2, 1), skip()), []int{2, 3}, []int{2, 3}, []int{2, 3})
	shaped(t, rows(2, 3, pool(1), skip()), []int{2, 3}, []int{2, 3}, []int{2, 3})
	shaped(t, row(2, dense(3), bend(1), skip(), dense(3), skip()), []int{2}, []int{3}, []int{3}, []int{3}, []int{3}, []int{3})
	shaped(t, rows(2, 9, conv(4, 2), pool(3), bend(4), skip(), dense(7)), []int{2, 9}, []int{4, 8}, []int{4, 2}, []int{4, 2}, []int{4, 2}, []int{7})
}

// bounded is a layer's number: where it stands, and its upper bound.
type bounded struct {
	top  int
	with func(v int) model.Net
}

func boundedNumbers() map[string]bounded {
	return map[string]bounded{
		"in N":   {1024, func(v int) model.Net { return row(v) }},
		"in C":   {64, func(v int) model.Net { return rows(v, 1) }},
		"in L":   {64, func(v int) model.Net { return rows(1, v) }},
		"dense":  {256, func(v int) model.Net { return row(1, dense(v)) }},
		"conv O": {16, func(v int) model.Net { return rows(1, 64, conv(v, 1)) }},
		"conv W": {16, func(v int) model.Net { return rows(1, 64, conv(1, v)) }},
		"pool":   {16, func(v int) model.Net { return rows(1, 64, pool(v)) }},
		"bend":   {5, func(v int) model.Net { return row(1, bend(v)) }},
	}
}

func TestEachNumberAtItsBounds(t *testing.T) {
	for what, b := range boundedNumbers() {
		for v := 1; v <= b.top; v++ {
			if _, err := model.Shapes(b.with(v)); err != api.OK {
				t.Errorf("P12.1: Shapes with %s %d: %d", what, v, err)
			}
		}
		for _, v := range append(farNumbers(), 0, b.top+1, -b.top) {
			if _, err := model.Shapes(b.with(v)); err != api.EARG {
				t.Errorf("P12.1: Shapes with %s %d: %d, want %d", what, v, err, api.EARG)
			}
			unshaped(t, b.with(v), api.EARG)
		}
	}
}

func TestBothSidesAtTheirBounds(t *testing.T) {
	shaped(t, rows(64, 64), []int{64, 64})
	shaped(t, rows(64, 64, bend(1)), []int{64, 64}, []int{64, 64})
	shaped(t, rows(1, 64, conv(16, 16)), []int{1, 64}, []int{16, 49})
	shaped(t, row(1, dense(256), bend(5)), []int{1}, []int{256}, []int{256})
	shaped(t, row(1024, bend(5)), []int{1024}, []int{1024})
}

func TestNumbersThatAKindHasNot(t *testing.T) {
	for _, v := range append(farNumbers(), 1, 2, 5, 16) {
		for _, l := range []model.Layer{
			{Kind: "dense", A: 1, B: v}, {Kind: "pool", A: 1, B: v}, {Kind: "bend", A: 1, B: v}, {Kind: "skip", A: v}, {Kind: "skip", B: v}, {Kind: "skip", A: v, B: v},
		} {
			unshaped(t, rows(2, 2, bend(1), l), api.EARG)
			unshaped(t, rows(2, 2, bend(1), l, bend(1)), api.EARG)
		}
	}
}

func TestKindsThatAreNone(t *testing.T) {
	for _, kind := range []string{"", "x", "in", "Dense", "DENSE", "dense ", " dense", "dens", "denses", "Skip", "skip ", "conv\n", "\x00", "\xff", "relu", "1"} {
		for _, l := range []model.Layer{{Kind: kind}, {Kind: kind, A: 1}, {Kind: kind, A: 1, B: 1}} {
			unshaped(t, rows(2, 2, l), api.EARG)
			unshaped(t, rows(2, 2, bend(1), l), api.EARG)
		}
	}
}

func TestInOfOtherThanOneOrTwo(t *testing.T) {
	for _, in := range [][]int{nil, {}, {1, 1, 1}, {2, 2, 1}, {1, 2, 2}, {1, 1, 1, 1}, {1, 1, 1, 1, 1}, make([]int, 3), make([]int, 100)} {
		unshaped(t, model.Net{In: in}, api.EARG)
		unshaped(t, model.Net{In: in, Layers: layers{bend(1)}}, api.EARG)
	}
	unshaped(t, model.Net{}, api.EARG)
}

func TestLayersThatDoNotFit(t *testing.T) {
	for _, n := range []model.Net{
		row(2, conv(1, 1)), row(2, pool(1)), row(1, conv(1, 1)), row(1, pool(1)), row(64, pool(2)), rows(2, 2, dense(4), conv(1, 1)), rows(2, 2, dense(4), pool(1)),
		rows(2, 2, dense(4), bend(1), skip(), pool(1)), rows(2, 2, conv(1, 3)), rows(2, 2, pool(3)), rows(3, 2, conv(1, 3)), rows(3, 2, pool(3)), rows(16, 1, conv(1, 2)), rows(16, 1, pool(2)),
		rows(1, 15, conv(1, 16)), rows(1, 15, pool(16)), rows(1, 4, conv(1, 3), conv(1, 3)), rows(1, 4, pool(2), pool(3)), rows(1, 4, pool(2), conv(1, 3)), rows(1, 4, conv(1, 3), pool(3)),
		row(2, skip()), rows(2, 2, skip()), row(2, skip(), bend(1)), row(2, bend(1), skip(), skip()), rows(2, 2, bend(1), skip(), skip()), row(2, bend(1), skip(), skip(), skip()),
		row(2, dense(3), skip()), row(3, dense(2), skip()), row(1, dense(2), skip()), row(2, dense(1), skip()), rows(2, 2, conv(1, 1), skip()), rows(2, 2, conv(3, 1), skip()), rows(2, 2, conv(2, 2), skip()),
		rows(1, 2, conv(2, 1), skip()), rows(2, 2, pool(2), skip()), rows(1, 3, conv(3, 3), skip()),
		// As many numbers, but not one shape.
		rows(2, 2, dense(4), skip()), rows(1, 4, dense(4), skip()), rows(4, 1, dense(4), skip()), rows(1, 1, dense(1), skip()), rows(1, 2, conv(2, 2), skip()), rows(2, 4, conv(4, 3), skip()),
		// What fits further ahead is not asked.
		row(2, dense(3), dense(2), skip()), row(2, bend(1), dense(3), skip()), row(2, bend(1), skip(), dense(3), skip()),
	} {
		unshaped(t, n, api.ESHAPE)
	}
}

func TestHowManyLayers(t *testing.T) {
	sixteen := slices.Repeat([][]int{{2}}, 17)
	shaped(t, row(2, again(16, bend(1))...), sixteen...)
	shaped(t, row(2, again(16, dense(2))...), sixteen...)
	shaped(t, row(2, slices.Repeat(layers{bend(1), skip()}, 8)...), sixteen...)
	for _, many := range []int{17, 18, 32, 100, 65536 + 16} {
		unshaped(t, row(2, again(many, bend(1))...), api.ELIMIT)
		unshaped(t, rows(2, 2, again(many, pool(1))...), api.ELIMIT)
	}
	unshaped(t, row(2, append(again(16, bend(1)), skip())...), api.ELIMIT)
}

// A tensor of parameters of more than MaxSize, and small ones that together are more than MaxParams.
func TestTooManyParameters(t *testing.T) {
	for _, n := range []model.Net{
		row(1024, dense(5)), row(1024, dense(256)), row(256, dense(17)), row(17, dense(241)), row(64, dense(65)), rows(64, 64, dense(2)), rows(64, 64, dense(256)), rows(8, 8, dense(65)),
		rows(64, 16, conv(16, 5)), rows(64, 16, conv(5, 16)), rows(17, 16, conv(16, 16)), rows(64, 64, conv(16, 16)), rows(64, 64, bend(1), skip(), dense(2)),
		// The matrix has 4096 numbers, its row comes to it.
		row(1024, dense(4)), row(256, dense(16)), row(64, dense(64)), row(16, dense(256)), rows(64, 64, dense(1)), rows(8, 8, dense(64)),
		// Several tensors come to 4097, 4103, 4112 and 4159.
		rows(1, 64, conv(1, 1), conv(16, 16), conv(15, 16)), row(2, dense(2), dense(1), dense(255), dense(14)), rows(16, 16, conv(16, 16), conv(1, 1)), row(64, dense(32), dense(63)),
	} {
		unshaped(t, n, api.ELIMIT)
	}
}

// All parameters together come to just MaxParams, in one tensor or in several.
func TestParamsAtTheLimit(t *testing.T) {
	for _, n := range []model.Net{
		rows(16, 16, conv(16, 16)), rows(64, 16, conv(16, 4)), rows(64, 16, conv(4, 16)), row(1023, dense(4)), row(255, dense(16)), row(63, dense(64)), row(15, dense(256)),
		rows(3, 21, dense(64)), rows(1, 64, conv(16, 16), conv(15, 16)), row(1023, dense(3), dense(256)), rows(16, 64, conv(8, 16), conv(16, 16)), rows(16, 64, conv(8, 16), bend(1), skip(), pool(1), conv(16, 16)),
	} {
		if v, err := model.Params(n); v != api.MaxParams || err != api.OK {
			t.Errorf("P12.1: Params(%v): %d, %d, want %d", n, v, err, api.MaxParams)
		}
	}
	unshaped(t, rows(16, 64, conv(8, 16), conv(16, 16), dense(1)), api.ELIMIT)
}

// Of two faults that a net has it is the chapter's first that is told, not the first on the way.
func TestWhichErrorShapesTells(t *testing.T) {
	for _, wrong := range []model.Layer{{Kind: "x"}, bend(6), {Kind: "bend", A: 1, B: 1}, dense(0), pool(17), conv(0, 1), {Kind: "skip", A: 1}} {
		unshaped(t, row(2, skip(), wrong), api.EARG)
		unshaped(t, row(2, wrong, skip()), api.EARG)
		unshaped(t, row(1024, dense(256), wrong), api.EARG)
		unshaped(t, row(1024, wrong, dense(256)), api.EARG)
		unshaped(t, row(2, conv(1, 1), wrong), api.EARG)
		for _, at := range []int{0, 15, 16, 17, 99} {
			unshaped(t, row(2, nth(100, at, wrong)...), api.EARG)
		}
		unshaped(t, row(0, skip(), wrong), api.EARG)
	}
	for _, in := range [][]int{nil, {0}, {65, 1}, {1, 1, 1}} {
		unshaped(t, model.Net{In: in, Layers: layers{skip()}}, api.EARG)
		unshaped(t, model.Net{In: in, Layers: again(17, bend(1))}, api.EARG)
		unshaped(t, model.Net{In: in, Layers: layers{dense(256), dense(256)}}, api.EARG)
	}
	for _, misfit := range []model.Layer{conv(1, 1), pool(1)} {
		unshaped(t, row(1024, dense(256), misfit), api.ESHAPE)
		unshaped(t, row(1024, misfit, dense(256)), api.ESHAPE)
		for _, at := range []int{0, 15, 16, 17, 99} {
			unshaped(t, row(2, nth(100, at, misfit)...), api.ESHAPE)
		}
	}
	unshaped(t, row(1024, dense(4), skip()), api.ESHAPE)
	unshaped(t, rows(64, 64, conv(16, 16), skip()), api.ESHAPE)
	unshaped(t, row(2, append(again(17, bend(1)), skip(), skip())...), api.ESHAPE)
	unshaped(t, rows(64, 16, conv(16, 16), conv(16, 2)), api.ESHAPE)
	unshaped(t, row(1024, append(again(17, bend(1)), dense(256))...), api.ELIMIT)
}

func TestParams(t *testing.T) {
	for text, wanted := range map[string]int{
		"in 3": 0, "in 2 3": 0, "in 2 dense 1": 3, "in 1 dense 1": 2, "in 3 dense 5": 20, "in 2 3 dense 5": 35, "in 2 3 dense 5 dense 2": 47, "in 2 5 conv 3 2": 12, "in 2 5 conv 1 1": 2, "in 1 5 conv 3 2": 6,
		"in 2 5 conv 3 2 conv 4 3": 48, "in 2 5 pool 2": 0, "in 2 bend 1": 0, "in 2 bend 1 skip": 0, "in 2 5 conv 3 2 pool 2 bend 1 dense 4": 40, "in 2 dense 2 skip dense 1": 9, "in 2 4 pool 2 dense 3": 15,
	} {
		if v, err := model.Params(net(t, text)); v != wanted || err != api.OK {
			t.Errorf("P12.1: Params of %q: %d, %d, want %d", text, v, err, wanted)
		}
	}
}
