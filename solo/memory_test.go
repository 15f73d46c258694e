package solo_test

import (
	"fmt"
	"slices"
	"testing"

	"carousel/api"
	"carousel/grad"
	"carousel/model"
	"carousel/opt"
	"carousel/solo"
)

// inRoom lays a list in a wider one, so that there is room ahead of it and spare room behind it.
func inRoom[T any](list []T, other T) (room, part []T) {
	room = slices.Concat([]T{other, other}, list, slices.Repeat([]T{other}, 5))
	return room, room[2 : 2+len(list)]
}

// spoil writes over a list, its spare room included.
func spoil[T any](list []T, with T) {
	for i := range list[:cap(list)] {
		list[:cap(list)][i] = with
	}
}

func spoilState(s opt.State) {
	spoil(s.P, 77)
	spoil(s.M, 88)
}

// rooms are those about the lists of a job.
type rooms struct {
	in      []int
	layers  []model.Layer
	numbers [][]api.Fix
	data    []grad.Example
}

// handed is a job, each list of it within a room that is watched.
type handed struct {
	j        solo.Job
	now, was rooms
}

func handIn(j solo.Job) *handed {
	h := &handed{j: j}
	h.now.in, h.j.Net.In = inRoom(j.Net.In, 9)
	h.now.layers, h.j.Net.Layers = inRoom(j.Net.Layers, model.Layer{Kind: "dense", A: 9})
	h.j.P = h.numbers(j.P)
	h.j.Data = nil
	for _, e := range j.Data {
		h.j.Data = append(h.j.Data, grad.Example{X: h.numbers(e.X), Y: h.numbers(e.Y), Class: e.Class})
	}
	h.now.data, h.j.Data = inRoom(h.j.Data, grad.Example{Class: 9})
	h.was = rooms{in: slices.Clone(h.now.in), layers: slices.Clone(h.now.layers), data: slices.Clone(h.now.data)}
	for _, v := range h.now.numbers {
		h.was.numbers = append(h.was.numbers, slices.Clone(v))
	}
	return h
}

func (h *handed) numbers(v []api.Fix) []api.Fix {
	room, part := inRoom(v, 9)
	h.now.numbers = append(h.now.numbers, room)
	return part
}

// spoil writes over all that was handed in, and over the room about it.
func (h *handed) spoil() {
	spoil(h.now.in, 99)
	spoil(h.now.layers, model.Layer{Kind: "skip", A: 99, B: 99})
	for _, v := range h.now.numbers {
		spoil(v, 99)
	}
	spoil(h.now.data, grad.Example{X: whole(99), Class: 99})
}

// sameList asks for one piece of memory, not only for alike numbers.
func sameList(a, b []api.Fix) bool {
	return len(a) == len(b) && cap(a) == cap(b) && (cap(a) == 0 || &a[:1][0] == &b[:1][0])
}

func sameExample(a, b grad.Example) bool {
	return sameList(a.X, b.X) && sameList(a.Y, b.Y) && a.Class == b.Class
}

func (h *handed) stays(t *testing.T, what string) {
	t.Helper()
	if !slices.Equal(h.now.in, h.was.in) || !slices.Equal(h.now.layers, h.was.layers) {
		t.Errorf("P17.1: %s: the net, or the room about it, is changed", what)
	}
	if !slices.EqualFunc(h.now.numbers, h.was.numbers, slices.Equal[[]api.Fix]) {
		t.Errorf("P17.1: %s: numbers of P or of the Data, or the room about them, are changed", what)
	}
	if !slices.EqualFunc(h.now.data, h.was.data, sameExample) {
		t.Errorf("P17.1: %s: the Data, or the room about them, are changed", what)
	}
}

func TestWhatIsHandedInStays(t *testing.T) {
	for _, g := range goodJobs() {
		h := handIn(g.j)
		solo.Good(h.j)
		h.stays(t, "Good, "+g.what)
		x := trainer(t, g.what, h.j)
		h.stays(t, "New, "+g.what)
		spoilState(x.State())
		for range 8 {
			steps(t, g.what, x)
			spoilState(x.State())
		}
		h.stays(t, "Step, "+g.what)
		for _, k := range []int64{0, 1, 8, -1, 10001} {
			s, _ := solo.At(h.j, k)
			spoilState(s)
		}
		h.stays(t, "At, "+g.what)
	}
}

// With what is refused, too.
func TestWhatIsRefusedStays(t *testing.T) {
	for _, w := range slices.Concat(wrongNets(), wrongNumbers(), wrongExamples()) {
		h := handIn(with(classes(), w.change))
		for range 2 {
			solo.Good(h.j)
			solo.New(h.j)
			for _, k := range []int64{0, 5, -1, 10001} {
				s, _ := solo.At(h.j, k)
				spoilState(s)
			}
		}
		h.stays(t, w.what)
	}
}

// What is changed behind New, of all that was handed in, is not to be seen in its Trainer.
func TestTrainersOwnStays(t *testing.T) {
	for _, g := range goodJobs() {
		for _, before := range []int{0, 1, 3} {
			what := fmt.Sprintf("%s, changed behind %d steps", g.what, before)
			h := handIn(g.j)
			x, other := trainer(t, what, h.j), trainer(t, what, g.j)
			for range before {
				steps(t, what, x)
				steps(t, what, other)
			}
			h.spoil()
			for range 8 {
				stands(t, what, x, other.Steps(), other.State(), other.Loss())
				steps(t, what, x)
				steps(t, what, other)
			}
			stands(t, what, x, other.Steps(), other.State(), other.Loss())
		}
	}
}

// Part by part: each thing that is handed in, changed alone.
func TestEachPartOfItsOwn(t *testing.T) {
	for i, change := range []func(j *solo.Job){
		func(j *solo.Job) { j.Net.In[0] = 2 },
		func(j *solo.Job) { j.Net.Layers[0] = model.Layer{Kind: "bend", A: 1} },
		func(j *solo.Job) { j.P[0] = 9 },
		func(j *solo.Job) { j.P[1] = 9 },
		func(j *solo.Job) { j.Data[3] = grad.Example{} },
		func(j *solo.Job) { j.Data[0], j.Data[2] = j.Data[2], j.Data[0] },
		func(j *solo.Job) { j.Data[2].X[0] = 9 },
		func(j *solo.Job) { j.Data[2].Y[0] = 9 },
		func(j *solo.Job) { j.Kind, j.Batch, j.Rate = 2, 3, opt.Rate{} },
	} {
		j := line()
		x, other := trainer(t, "line", j), trainer(t, "line", line())
		change(&j)
		for range 4 {
			steps(t, "line", x)
			steps(t, "line", other)
		}
		stands(t, fmt.Sprint("the line, change ", i), x, 4, other.State(), other.Loss())
	}
	j := classes()
	x, other := trainer(t, "classes", j), trainer(t, "classes", classes())
	j.Data[0].Class, j.Data[1].Class = 1, 2
	steps(t, "classes", x)
	steps(t, "classes", other)
	stands(t, "classes, others behind New", x, 1, other.State(), other.Loss())
}

// apart asks that neither list of a state shares memory with the other.
func apart(t *testing.T, what string, s opt.State) {
	t.Helper()
	m := s.M[:cap(s.M)]
	was := slices.Clone(m)
	spoil(s.P, 77)
	if !slices.Equal(m, was) {
		t.Errorf("P17.1: %s: P and M share memory", what)
	}
	spoil(m, 88)
	if slices.Contains(s.P[:cap(s.P)], 88) {
		t.Errorf("P17.1: %s: M and P share memory", what)
	}
}

// What State hands back shares nothing with the Trainer, nor with what it hands back another time.
func TestStatesAreNewMemory(t *testing.T) {
	for _, g := range goodJobs() {
		x, other := trainer(t, g.what, g.j), trainer(t, g.what, g.j)
		for range 6 {
			first, second := x.State(), x.State()
			apart(t, "State, "+g.what, first)
			if !alike(second, other.State()) {
				t.Errorf("P17.1: %s: two States share memory", g.what)
			}
			stands(t, g.what+", State changed", x, other.Steps(), other.State(), other.Loss())
			kept := opt.State{P: slices.Clone(second.P), M: slices.Clone(second.M)}
			steps(t, g.what, x)
			steps(t, g.what, other)
			stands(t, g.what+", State changed", x, other.Steps(), other.State(), other.Loss())
			if !alike(second, kept) {
				t.Errorf("P17.1: %s: a State goes with the step behind it", g.what)
			}
		}
	}
}

// What At hands back shares nothing with what was handed in, nor with what it hands back another time.
func TestAtIsNewMemory(t *testing.T) {
	for _, g := range goodJobs() {
		for _, k := range []int64{0, 1, 5} {
			what := fmt.Sprintf("At %d, %s", k, g.what)
			h := handIn(g.j)
			first, _ := solo.At(h.j, k)
			second, _ := solo.At(h.j, k)
			kept := opt.State{P: slices.Clone(second.P), M: slices.Clone(second.M)}
			apart(t, what, first)
			h.stays(t, what)
			h.spoil()
			if !alike(second, kept) {
				t.Errorf("P17.1: %s: it goes with what was handed in, or with another one", what)
			}
			reaches(t, g.what+" again", g.j, k, kept)
		}
	}
}

// One list may be P, what comes in and what is wanted, of several examples.
func TestOneListAsAll(t *testing.T) {
	all := whole(1, 1)
	e := toward(all[:1], all[1:])
	j := solo.Job{Net: net("in 1 dense 1"), Kind: square, Batch: 2, Rate: opt.Rate{Step: half}, Data: []grad.Example{e, e, e}, P: all}
	x := trainer(t, "one list as all", j)
	// 2 is told where 1 is wanted: the gradients are 2 and 2.
	steps(t, "one list as all", x)
	stands(t, "one list as all", x, 1, opt.State{P: whole(0, 0), M: whole(2, 2)}, far(1, 2))
	// Now 0 is told.
	steps(t, "one list as all", x)
	stands(t, "one list as all", x, 2, opt.State{P: whole(1, 1), M: whole(-2, -2)}, far(1, 2))
	if !slices.Equal(all, whole(1, 1)) {
		t.Errorf("P17.1: one list as all: it is changed: %v", all)
	}
}

// Spare room behind the Data is no example.
func TestSpareRoomIsNone(t *testing.T) {
	j := line()
	j.Data = append(j.Data, grad.Example{})[:4]
	begins(t, "a bad example in the spare room", j)
	follows(t, "a bad example in the spare room", j, 10)
	j.P = append(j.P, 5)[:2]
	follows(t, "a number more in the spare room", j, 10)
}

// What was refused leaves nothing behind.
func TestBehindRefusals(t *testing.T) {
	x, other := trainer(t, "line", line()), trainer(t, "line", line())
	for range 5 {
		for _, w := range slices.Concat(wrongNets(), wrongNumbers()[:8]) {
			refuses(t, w.what, with(line(), w.change), w.err)
		}
		steps(t, "line", x)
		steps(t, "line", other)
		begins(t, "line, behind refusals", line())
	}
	stands(t, "line, behind refusals", x, 5, other.State(), other.Loss())
}
