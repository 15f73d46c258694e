package solo

import (
	"slices"
	"strings"

	"carousel/api"
	"carousel/grad"
	"carousel/model"
	"carousel/opt"
)

// The first and the last of grad's kinds of losses.
const (
	firstKind = 1
	lastKind  = 3
)

// numbersFit asks what is neither the net's own nor an example's.
func numbersFit(j Job) bool {
	params, err := model.Params(j.Net)
	return err == api.OK && len(j.P) == params &&
		within(j.Kind, firstKind, lastKind) &&
		within(len(j.Data), 1, api.MaxData) &&
		within(j.Batch, 1, len(j.Data)) &&
		j.Rate.Bound >= 0
}

func within(v, from, to int) bool { return v >= from && v <= to }

// examplesFit asks by P alone: whether an example fits hangs on how many numbers there are, not on
// which, so that what fits now fits at every step.
func examplesFit(j Job) api.Errno {
	for _, e := range j.Data {
		if _, _, err := grad.Of(j.Net, j.Kind, j.P, e); err != api.OK {
			return err
		}
	}
	return api.OK
}

// ownJob shares no memory with a job. It is without P, which counts at the beginning alone.
func ownJob(j Job) Job {
	return Job{Net: ownNet(j.Net), Kind: j.Kind, Batch: j.Batch, Rate: j.Rate, Data: ownData(j.Data)}
}

func ownNet(n model.Net) model.Net {
	own := model.Net{In: slices.Clone(n.In), Layers: slices.Clone(n.Layers)}
	for i, l := range n.Layers {
		// A kind that is a piece of a text would keep all of it.
		own.Layers[i].Kind = strings.Clone(l.Kind)
	}
	return own
}

func ownData(l []grad.Example) []grad.Example {
	own := make([]grad.Example, len(l))
	for i, e := range l {
		own[i] = grad.Example{X: slices.Clone(e.X), Y: slices.Clone(e.Y), Class: e.Class}
	}
	return own
}

func ownState(s opt.State) opt.State {
	return opt.State{P: slices.Clone(s.P), M: slices.Clone(s.M)}
}

// picked tells the examples at those places.
func picked(l []grad.Example, places []int) []grad.Example {
	batch := make([]grad.Example, len(places))
	for i, place := range places {
		batch[i] = l[place]
	}
	return batch
}
