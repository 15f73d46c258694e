package model

// The kinds of layers.
const (
	dense = "dense"
	conv  = "conv"
	pool  = "pool"
	bend  = "bend"
	skip  = "skip"
)

// The bounds of what comes in: of one row, and of each side of rows.
const (
	topRow  = 1024
	topSide = 64
)

// kind has its numbers' upper bounds, in order; the lower one of each is 1.
type kind struct {
	name  string
	count int
	tops  [2]int
}

var kinds = [...]kind{
	{name: dense, count: 1, tops: [2]int{256, 0}},
	{name: conv, count: 2, tops: [2]int{16, 16}},
	{name: pool, count: 1, tops: [2]int{16, 0}},
	{name: bend, count: 1, tops: [2]int{5, 0}},
	{name: skip, count: 0},
}

func kindOf(name string) (kind, bool) {
	for _, k := range kinds {
		if k.name == name {
			return k, true
		}
	}
	return kind{}, false
}

// numbersFit tells whether what comes in, and each layer's kind and numbers, may be at all.
func numbersFit(n Net) bool {
	if !inFits(n.In) {
		return false
	}
	for _, l := range n.Layers {
		if !layerFits(l) {
			return false
		}
	}
	return true
}

func inFits(in []int) bool {
	switch len(in) {
	case 1:
		return within(in[0], topRow)
	case 2:
		return within(in[0], topSide) && within(in[1], topSide)
	}
	return false
}

func layerFits(l Layer) bool {
	k, ok := kindOf(l.Kind)
	if !ok {
		return false
	}
	for i, v := range [2]int{l.A, l.B} {
		if i < k.count && !within(v, k.tops[i]) || i >= k.count && v != 0 {
			return false
		}
	}
	return true
}

func within(v, top int) bool { return v >= 1 && v <= top }
