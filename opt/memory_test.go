package opt_test

import (
	"slices"
	"testing"

	"carousel/api"
	"carousel/opt"
)

// inRoom lays a list in a wider one, so that there is room ahead of it and spare room behind it.
func inRoom[T any](list []T, other T) (room, part []T) {
	room = slices.Concat([]T{other, other}, list, slices.Repeat([]T{other}, 5))
	return room, room[2 : 2+len(list)]
}

// spoil writes over a list, its spare room included.
func spoil[T any](list []T, with T) {
	for i := range list[:cap(list)] {
		list[:cap(list)][i] = with
	}
}

// both tells a state's lists with their spare room.
func both(s opt.State) (p, m []api.Fix) { return s.P[:cap(s.P)], s.M[:cap(s.M)] }

// apart asks that neither list of an answer shares memory with the other.
func apart(t *testing.T, what string, s opt.State) {
	t.Helper()
	p, m := both(s)
	was := slices.Clone(m)
	spoil(p, 77)
	if !slices.Equal(m, was) {
		t.Errorf("P15.1: %s: P and M share memory", what)
	}
	spoil(m, 88)
	if slices.Contains(p, 88) {
		t.Errorf("P15.1: %s: M and P share memory", what)
	}
}

func TestNewsMemory(t *testing.T) {
	for many := range 6 {
		wanted := fixes(5, -one, top, low, 0)[:many]
		room, p := inRoom(wanted, 9)
		was := slices.Clone(room)
		s, again := opt.New(p), opt.New(p)
		apart(t, "New", again)
		if !slices.Equal(room, was) {
			t.Errorf("P15.1: New of %d: what is handed in, or the room about it, is changed", many)
		}
		spoil(room, 99)
		if !slices.Equal(s.P, wanted) || !slices.Equal(s.M, make([]api.Fix, many)) {
			t.Errorf("P15.1: New of %d: %v behind changes", many, s)
		}
	}
}

// handed is a state and a gradient, each list within a room that is watched.
type handed struct {
	s            opt.State
	g            []api.Wide
	p, m, wp, wm []api.Fix
	sum, wsum    []api.Wide
}

func handIn(p, m []api.Fix, g []api.Wide) *handed {
	h := &handed{}
	h.p, h.s.P = inRoom(p, 9)
	h.m, h.s.M = inRoom(m, 9)
	h.sum, h.g = inRoom(g, api.Wide{Hi: 9, Lo: 9})
	h.wp, h.wm, h.wsum = slices.Clone(h.p), slices.Clone(h.m), slices.Clone(h.sum)
	return h
}

func (h *handed) stays(t *testing.T, what string) {
	t.Helper()
	if !slices.Equal(h.p, h.wp) || !slices.Equal(h.m, h.wm) || !slices.Equal(h.sum, h.wsum) {
		t.Errorf("P15.1: Apply %s: what is handed in, or the room about it, is changed", what)
	}
}

func (h *handed) spoil() {
	spoil(h.p, 99)
	spoil(h.m, 99)
	spoil(h.sum, api.Wide{Hi: 99})
}

func TestAppliesMemory(t *testing.T) {
	rate := opt.Rate{Step: one, Keep: half, Bound: 30}
	for many := range 6 {
		h := handIn(fixes(5, -1, 100, 7, 0)[:many], fixes(8, -8, 0, 2, 20)[:many], wides(20, 0, -90, 1, 4)[:many])
		toP, toM := fixes(-19, 3, 130, 5, -14)[:many], fixes(24, -4, -30, 2, 14)[:many]
		next, _ := opt.Apply(h.s, h.g, 1, rate)
		again, _ := opt.Apply(h.s, h.g, 1, rate)
		apart(t, "Apply", again)
		h.stays(t, "once")
		if len(h.g) > 0 {
			for _, w := range []struct {
				g    []api.Wide
				many int64
				r    opt.Rate
			}{{h.g[1:], 1, rate}, {h.g, 0, rate}, {h.g, 1, opt.Rate{Bound: -1}}} {
				refused, _ := opt.Apply(h.s, w.g, w.many, w.r)
				apart(t, "Apply, refused", refused)
				h.stays(t, "refused")
			}
		}
		// Behind refusals it goes as ahead of them.
		goes(t, "once more", h.s, h.g, 1, rate, toP, toM)
		h.spoil()
		if !slices.Equal(next.P, toP) || !slices.Equal(next.M, toM) {
			t.Errorf("P15.1: Apply of %d: %v behind changes, want %v, %v", many, next, toP, toM)
		}
	}
}

// A step that leads nowhere still answers memory of its own.
func TestStandingStillIsNewMemory(t *testing.T) {
	h := handIn(fixes(1, 2), fixes(3, 4), wides(0, 0))
	next, _ := opt.Apply(h.s, h.g, 1, opt.Rate{Keep: one})
	apart(t, "Apply, standing still", next)
	h.stays(t, "standing still")
}

// One list may be P and M, or each a piece of one.
func TestOneListAsBoth(t *testing.T) {
	all := fixes(1, 2, 3)
	goes(t, "of one list as both", state(all, all), wides(10, 20, 30), 1, opt.Rate{Step: one, Keep: one}, fixes(-10, -20, -30), fixes(11, 22, 33))
	goes(t, "of pieces of one list", state(all[:2], all[1:]), wides(10, 20), 1, opt.Rate{Step: one, Keep: one}, fixes(-11, -21), fixes(12, 23))
	if !slices.Equal(all, fixes(1, 2, 3)) {
		t.Errorf("P15.1: Apply of one list as both: it is changed: %v", all)
	}
}
