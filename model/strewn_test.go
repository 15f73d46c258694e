package model_test

import (
	"fmt"
	"math/rand"
	"regexp"
	"slices"
	"strconv"
	"strings"
	"testing"

	"carousel/act"
	"carousel/api"
	convs "carousel/conv"
	"carousel/matm"
	"carousel/model"
	"carousel/tape"
	"carousel/tens"
)

// What follows tells the chapter's words once more, in another way.

const (
	blank    = `[ \t\n]+`
	numeral  = `(?:0|[1-9][0-9]{0,3})`
	oneLayer = `(?:(?:dense|pool|bend)` + blank + numeral + `|conv` + blank + numeral + blank + numeral + `|skip)`
)

// grammar is the form of a net's text; layerWords are its layers, one by one.
var (
	grammar    = regexp.MustCompile(`\A[ \t\n]*in((?:` + blank + numeral + `){1,2})((?:` + blank + oneLayer + `)*)[ \t\n]*\z`)
	layerWords = regexp.MustCompile(oneLayer)
)

func numbers(words []string) []int {
	var all []int
	for _, w := range words {
		v, _ := strconv.Atoi(w)
		all = append(all, v)
	}
	return all
}

// mustParse tells what Parse has to answer of a text that is not too long.
func mustParse(text string) (model.Net, api.Errno) {
	parts := grammar.FindStringSubmatch(text)
	if parts == nil {
		return model.Net{}, api.ESYNTAX
	}
	n := model.Net{In: numbers(strings.Fields(parts[1]))}
	for _, l := range layerWords.FindAllString(parts[2], -1) {
		words := strings.Fields(l)
		both := append(numbers(words[1:]), 0, 0)
		n.Layers = append(n.Layers, model.Layer{Kind: words[0], A: both[0], B: both[1]})
	}
	if _, _, err := mustShapes(n); err != api.OK {
		return model.Net{}, err
	}
	return n, api.OK
}

func mayBe(n model.Net) bool {
	tops := map[string][2]int{"dense": {256, 0}, "conv": {16, 16}, "pool": {16, 0}, "bend": {5, 0}, "skip": {0, 0}}
	fits := func(v, top int) bool { return v == 0 && top == 0 || v >= 1 && v <= top }
	for _, l := range n.Layers {
		top, ok := tops[l.Kind]
		if !ok || !fits(l.A, top[0]) || !fits(l.B, top[1]) {
			return false
		}
	}
	return len(n.In) == 1 && fits(n.In[0], 1024) || len(n.In) == 2 && fits(n.In[0], 64) && fits(n.In[1], 64)
}

// mustShapes tells the shapes, and the parameters' ones of each layer.
func mustShapes(n model.Net) (shapes [][]int, params [][][]int, err api.Errno) {
	if !mayBe(n) {
		return nil, nil, api.EARG
	}
	shapes = [][]int{n.In}
	total := 0
	for i, l := range n.Layers {
		in, out, own := shapes[i], shapes[i], [][]int(nil)
		ofRows := len(in) == 2
		switch {
		case l.Kind == "dense":
			out, own = []int{l.A}, [][]int{{l.A, sizeOf(in)}, {l.A}}
		case l.Kind == "conv" && ofRows && in[1] >= l.B:
			out, own = []int{l.A, in[1] - (l.B - 1)}, [][]int{{l.A, in[0], l.B}}
		case l.Kind == "pool" && ofRows && in[1] >= l.A:
			out = []int{in[0], (in[1] - in[1]%l.A) / l.A}
		case l.Kind == "bend":
		case l.Kind == "skip" && i > 0 && n.Layers[i-1].Kind != "skip" && fmt.Sprint(shapes[i-1]) == fmt.Sprint(in):
		default:
			return nil, nil, api.ESHAPE
		}
		for _, d := range own {
			total += sizeOf(d)
		}
		shapes, params = append(shapes, out), append(params, own)
	}
	if len(n.Layers) > 16 || total > 4096 {
		return nil, nil, api.ELIMIT
	}
	return shapes, params, api.OK
}

// mustRun tells the nodes that Run has to leave on an empty tape, and the parameters' ones.
func mustRun(n model.Net, p, x []api.Fix) (nodes []tape.Node, places []int) {
	_, params, _ := mustShapes(n)
	put := func(op, a, b int, k api.Fix, t api.Tensor) int {
		nodes = append(nodes, tape.Node{Op: op, A: a, B: b, K: k, T: t})
		return len(nodes) - 1
	}
	value := func(at int) api.Tensor { return nodes[at].T }
	do := func(op, a, b int, k api.Fix) int {
		// With an error the tensor is empty, and no node on the tape is.
		t, _ := reckoned(op, a, b, k, value)
		return put(op, a, b, k, t)
	}
	last := put(1, -1, -1, 0, api.Tensor{Dims: n.In, V: x})
	var ins []int
	for i, l := range n.Layers {
		ins = append(ins, last)
		first := len(nodes)
		for _, d := range params[i] {
			places = append(places, put(1, -1, -1, 0, api.Tensor{Dims: d, V: p[:sizeOf(d)]}))
			p = p[sizeOf(d):]
		}
		switch l.Kind {
		case "dense":
			if len(value(last).Dims) == 2 {
				last = do(14, last, -1, 0)
			}
			last = do(2, do(8, do(4, first, last, 0), -1, 1), first+1, 0)
		case "conv":
			last = do(12, last, first, 1)
		case "pool":
			last = do(13, last, -1, api.Fix(l.A))
		case "bend":
			last = do(11, last, -1, api.Fix(l.A))
		case "skip":
			last = do(2, ins[i-1], last, 0)
		}
	}
	return nodes, places
}

// reckoned asks the layers below, and not the tape.
func reckoned(op, a, b int, k api.Fix, value func(int) api.Tensor) (api.Tensor, api.Errno) {
	switch op {
	case 2:
		return tens.Add(value(a), value(b))
	case 4:
		return tens.Mul(value(a), value(b))
	case 8:
		return matm.Sum(value(a), int(k))
	case 11:
		return act.All(int(k), value(a))
	case 12:
		return convs.Row(value(a), value(b), int(k))
	case 13:
		t, _, err := convs.Pool(value(a), int(k))
		return t, err
	}
	return tens.Reshape(value(a), []int{len(value(a).V)})
}

// strewnNet has numbers that mostly may be, and layers that mostly fit.
func strewnNet(r *rand.Rand) model.Net {
	small := func(top int) int { return []int{1, 1, 2, 2, 3, 4, r.Intn(top) + 1, r.Intn(top) + 1}[r.Intn(8)] }
	n := model.Net{In: []int{small(1024)}}
	if r.Intn(3) > 0 {
		n.In = []int{small(16), small(64)}
	}
	many := r.Intn(7)
	if r.Intn(30) == 0 {
		many = 15 + r.Intn(3)
	}
	for range many {
		kinds := layers{dense(small(256)), dense(small(256)), conv(small(16), small(4)), pool(small(4)), bend(r.Intn(5) + 1), bend(r.Intn(5) + 1), skip(), skip(), bend(r.Intn(8)), {Kind: "pool", A: 1, B: r.Intn(2)}}
		n.Layers = append(n.Layers, kinds[r.Intn(len(kinds))])
	}
	return n
}

func TestStrewnNets(t *testing.T) {
	r := rand.New(rand.NewSource(1))
	seen := map[api.Errno]int{}
	for range 40000 {
		n := strewnNet(r)
		shapes, params, wanted := mustShapes(n)
		seen[wanted]++
		if d, err := model.Shapes(n); err != wanted || !alikeShapes(d, shapes) {
			t.Fatalf("P12.1: Shapes(%v): %v, %d, want %v, %d", n, d, err, shapes, wanted)
		}
		count := 0
		for _, d := range slices.Concat(params...) {
			count += sizeOf(d)
		}
		if v, err := model.Params(n); err != wanted || v != count {
			t.Fatalf("P12.1: Params(%v): %d, %d, want %d, %d", n, v, err, count, wanted)
		}
		if wanted != api.OK {
			if s := model.Text(n); s != "" {
				t.Fatalf("P12.1: Text(%v): %q, want nothing", n, s)
			}
			continue
		}
		if back, err := model.Parse(model.Text(n)); err != api.OK || !alikeNets(back, n) {
			t.Fatalf("P12.1: Parse(%q): %v, %d, want %v", model.Text(n), back, err, n)
		}
	}
	for _, e := range []api.Errno{api.OK, api.EARG, api.ESHAPE, api.ELIMIT} {
		if seen[e] < 100 {
			t.Errorf("of the nets only %d come to %d", seen[e], e)
		}
	}
}

func TestStrewnRuns(t *testing.T) {
	r := rand.New(rand.NewSource(2))
	for runs := 0; runs < 1500; {
		n := strewnNet(r)
		count, err := model.Params(n)
		if err != api.OK {
			continue
		}
		runs++
		p, in := strewn(r, count), strewn(r, sizeOf(n.In))
		nodes, places := mustRun(n, p, in)
		ahead := r.Intn(4)
		x := tapeOf(t, ahead)
		was := nodesOf(x)
		nodes, places = behind(ahead, nodes, places)
		out, got, err := model.Run(x, n, p, in)
		if err != api.OK || out != ahead+len(nodes)-1 || !slices.Equal(got, places) {
			t.Fatalf("P12.2: Run(%v) behind %d nodes: %d, %v, %d, want %d, %v", n, ahead, out, got, err, ahead+len(nodes)-1, places)
		}
		holds(t, fmt.Sprint(n), x, append(was, nodes...))
	}
}

// strewnText is words of all kinds, mostly those of a net.
func strewnText(r *rand.Rand) string {
	number := func() string {
		return []string{"1", "1", "2", "2", "3", "4", "5", "16", "64", "0", "17", "257", "1024", "9999", "10000", "01", "-1", "x"}[min(r.Intn(18), r.Intn(18))]
	}
	blanks := func() string { return []string{" ", " ", " ", "\n", "\t", "  ", "\n\t "}[r.Intn(7)] }
	if r.Intn(40) == 0 {
		blanks = func() string { return []string{" ", " ", " ", "", "\r", "\v"}[r.Intn(6)] }
	}
	words := []string{"in", number()}
	if r.Intn(2) == 0 {
		words = append(words, number())
	}
	for range r.Intn(6) {
		kind := []string{"dense", "conv", "pool", "bend", "bend", "skip"}[r.Intn(6)]
		words = append(words, kind)
		for range map[string]int{"conv": 2, "skip": 0, "dense": 1, "pool": 1, "bend": 1}[kind] {
			words = append(words, number())
		}
	}
	if r.Intn(6) == 0 {
		at := r.Intn(len(words))
		words = slices.Replace(words, at, at+r.Intn(2), []string{"in", "skip", "1", "dense", "what", "Bend"}[r.Intn(6)])
	}
	text := ""
	for _, w := range words {
		text += w + blanks()
	}
	return text
}

func TestStrewnTexts(t *testing.T) {
	r := rand.New(rand.NewSource(3))
	seen := map[api.Errno]int{}
	for range 60000 {
		text := strewnText(r)
		wanted, wantedErr := mustParse(text)
		seen[wantedErr]++
		if n, err := model.Parse(text); err != wantedErr || !alikeNets(n, wanted) {
			t.Fatalf("P12.1: Parse(%q): %v, %d, want %v, %d", text, n, err, wanted, wantedErr)
		}
	}
	for _, e := range []api.Errno{api.OK, api.EARG, api.ESHAPE, api.ELIMIT, api.ESYNTAX} {
		if seen[e] < 20 {
			t.Errorf("of the texts only %d come to %d", seen[e], e)
		}
	}
}

// Bytes of any kind are a net's text or none, and nothing worse.
func FuzzParse(f *testing.F) {
	for text := range ordinary() {
		f.Add(text)
	}
	f.Add("in 2 \xff 1")
	f.Fuzz(func(t *testing.T, text string) {
		if len(text) > api.MaxText {
			unparsed(t, text, api.ELIMIT)
			return
		}
		wanted, wantedErr := mustParse(text)
		if n, err := model.Parse(text); err != wantedErr || !alikeNets(n, wanted) {
			t.Errorf("P12.1: Parse(%q): %v, %d, want %v, %d", short(text), n, err, wanted, wantedErr)
		}
	})
}
