package msg_test

import (
	"bytes"
	"encoding/binary"
	"fmt"
	"math"
	"slices"
	"testing"

	"carousel/api"
	"carousel/frame"
	"carousel/msg"
	"carousel/wide"
)

func TestGetByHand(t *testing.T) {
	for _, c := range byHand() {
		gets(t, []byte(c.b), c.m)
	}
}

func TestTheExample(t *testing.T) {
	m := msg.Message{Kind: 5, From: 2, To: 3, View: 7, Seq: 9, N: []int64{1, -1, math.MinInt64}, W: []api.Wide{wide.Of(-5), {Hi: 1, Lo: 2}}}
	got, err := msg.Get(msg.Put(m))
	if err != api.OK || !alike(got, m) || !msg.Same(got, m) {
		t.Errorf("P19.1: Get of Put: %s, %d, want %s", told(got), err, told(m))
	}
}

func TestGetOfWhatPutGives(t *testing.T) {
	for _, m := range goodOnes() {
		b := msg.Put(m)
		gets(t, b, m)
		got, _ := msg.Get(b)
		if !msg.Good(got) || !msg.Same(got, m) || !bytes.Equal(msg.Put(got), b) {
			t.Errorf("P19.1: what Get tells of %s is not good, not the same, or Put writes other bytes of it", told(m))
		}
	}
}

func TestGetOfEachNumber(t *testing.T) {
	for _, n := range edges() {
		m := with(plain(), func(m *msg.Message) { m.N = []int64{7, n, 7} })
		gets(t, whole(m), m)
	}
	for _, w := range wideEdges() {
		m := with(plain(), func(m *msg.Message) { m.W = []api.Wide{{Hi: 7, Lo: 8}, w, {Hi: 7, Lo: 8}} })
		gets(t, whole(m), m)
	}
}

func TestGetOfEachCount(t *testing.T) {
	for count := range most + 1 {
		n := with(plain(), func(m *msg.Message) { m.N = wholes(count) })
		gets(t, whole(n), n)
		w := with(plain(), func(m *msg.Message) { m.W = wides(count) })
		gets(t, whole(w), w)
	}
}

func TestGetOfEachKindAndWorker(t *testing.T) {
	for kind := range 256 {
		for other := range 256 {
			for _, m := range []msg.Message{{Kind: kind, From: other, To: 3}, {Kind: kind, From: 3, To: other}} {
				if kind >= 1 && kind <= 20 && other <= 15 {
					gets(t, whole(m), m)
				} else {
					refuses(t, "what can't be, its sum right", whole(m))
				}
			}
		}
	}
}

func TestGetOfNothing(t *testing.T) {
	refuses(t, "nothing", nil)
	refuses(t, "nothing", []byte{})
	refuses(t, "nothing", msg.Put(plain())[:0])
}

func TestGetOfEachFront(t *testing.T) {
	for _, m := range []msg.Message{{Kind: 1}, plain(), {Kind: 2, N: wholes(20)}, {Kind: 3, W: wides(20)}} {
		b := msg.Put(m)
		for n := range b {
			refuses(t, "a front", b[:n])
			// Of all fronts, the one that lacks just its sum becomes the message again.
			if n != len(b)-4 {
				refuses(t, "a front, its sum right", summed(b[:n]))
			}
			refuses(t, "an end", b[n+1:])
		}
		gets(t, b, m)
	}
}

func TestGetOfMoreBehind(t *testing.T) {
	for _, m := range []msg.Message{{Kind: 1}, plain(), {Kind: 2, N: wholes(most), W: wides(most)}} {
		b := msg.Put(m)
		for _, more := range []string{"\x00", "\x01", "\xff", "\x00\x00\x00\x00", string(b[len(b)-4:]), string(b)} {
			longer := append(bytes.Clone(b), more...)
			refuses(t, "one with more behind", longer)
			refuses(t, "one with more behind, its sum right", summed(longer))
			refuses(t, "one with more ahead", append([]byte(more), b...))
		}
	}
}

// Each byte by itself, turned to each other one.
func TestGetOfEachByteChanged(t *testing.T) {
	for _, m := range []msg.Message{{Kind: 1}, plain(), {Kind: 20, From: 15, View: most32, N: edges()}} {
		b := msg.Put(m)
		for i := range b {
			for turn := 1; turn < 256; turn++ {
				spoilt := bytes.Clone(b)
				spoilt[i] ^= byte(turn)
				refuses(t, fmt.Sprint("one whose byte is another, ", i), spoilt)
			}
		}
		gets(t, b, m)
	}
}

func TestGetOfALongOneChanged(t *testing.T) {
	b := msg.Put(msg.Message{Kind: 2, N: wholes(most), W: wides(most)})
	for i := 0; i < len(b); i += 1 + i/20 {
		b[i] ^= 16
		refuses(t, fmt.Sprint("a long one whose byte is another, ", i), b)
		b[i] ^= 16
	}
	gets(t, b, msg.Message{Kind: 2, N: wholes(most), W: wides(most)})
}

// refusesBody asks Get for EFORM of a frame whose sum fits: of two, each with other fields.
func refusesBody(t *testing.T, what string, body []byte) {
	t.Helper()
	for _, f := range []frame.Frame{{Kind: 1, Body: body}, {Kind: 20, From: 15, To: 14, View: most32, Seq: 5, Body: body}} {
		b := frame.Encode(f)
		if len(b) == 0 {
			t.Fatalf("a Body of %d bytes is in no frame", len(body))
		}
		refuses(t, what, b)
	}
}

// All of fewer than 4 bytes, be they what they may, and some of nothing but one byte again and again.
func TestGetOfShortBodies(t *testing.T) {
	refusesBody(t, "no Body", nil)
	for a := range 256 {
		refusesBody(t, "a Body of one byte", []byte{byte(a)})
		refusesBody(t, "a Body of two bytes", []byte{byte(a), 0})
		refusesBody(t, "a Body of two bytes", []byte{0, byte(a)})
		refusesBody(t, "a Body of three bytes", []byte{0, byte(a), 0})
		refusesBody(t, "a Body of three bytes", []byte{0, 0, byte(a)})
		refusesBody(t, "a Body of three bytes", []byte{byte(a), 0, 0})
	}
	for n := range 200 {
		refusesBody(t, "a Body of ones", bytes.Repeat([]byte{255}, n))
		refusesBody(t, "a Body of one byte", bytes.Repeat([]byte{1}, n))
		if n != 4 {
			refusesBody(t, "a Body of noughts", make([]byte, n))
		}
	}
}

// Each front of a Body, and each one with more behind it or ahead of it, in a frame that fits it.
func TestGetOfFrontsOfBodies(t *testing.T) {
	for _, m := range []msg.Message{{Kind: 1}, plain(), {Kind: 2, N: wholes(5)}, {Kind: 3, W: wides(5)}, {Kind: 4, N: wholes(most), W: wides(most)}} {
		body := lists(len(m.N), m.N, len(m.W), m.W)
		for n := 0; n < len(body); n += 1 + n/64 {
			refusesBody(t, "a Body's front", body[:n])
		}
		for _, more := range []int{1, 2, 3, 4, 7, 8, 9, 15, 16, 17, 32, 100} {
			for _, v := range []byte{0, 1, 255} {
				refusesBody(t, "a Body with more behind", append(bytes.Clone(body), bytes.Repeat([]byte{v}, more)...))
			}
		}
		gets(t, laid(m, body), m)
	}
	refusesBody(t, "a Body up to the most there may be", append(lists(0, nil, 0, nil), make([]byte, api.MaxBody-4)...))
}

// What is said of how many there are, and what there is, with lists of noughts and of others; the sum fits.
func TestGetOfOtherCounts(t *testing.T) {
	for _, n := range [][]int64{nil, {1}, {0, 0}, wholes(3), make([]int64, 7)} {
		for _, w := range [][]api.Wide{nil, {{Lo: 1}}, {{}, {}}, wides(3)} {
			for said := range 40 {
				if said != len(n) && !fitsOtherwise(said, len(w), n, w) {
					refusesBody(t, fmt.Sprintf("%d N, as it says, of %d", said, len(n)), lists(said, n, len(w), w))
				}
				if said != len(w) {
					refusesBody(t, fmt.Sprintf("%d W, as it says, of %d", said, len(w)), lists(len(n), n, said, w))
				}
			}
			for _, said := range []int{499, 500, 501, 1 << 15, 1<<16 - 1, 256 * len(n), 1<<15 + len(n)} {
				if said != len(n) {
					refusesBody(t, fmt.Sprintf("%d N, as it says, of %d", said, len(n)), lists(said, n, len(w), w))
				}
				if said != len(w) {
					refusesBody(t, fmt.Sprintf("%d W, as it says, of %d", said, len(w)), lists(len(n), n, said, w))
				}
			}
		}
	}
}

// fitsOtherwise tells whether the bytes of other lists chance to be just so with another count of N: what
// stands where there would be the count of W must be the count of just those bytes that are left.
func fitsOtherwise(said, saidW int, n []int64, w []api.Wide) bool {
	body := lists(said, n, saidW, w)
	at := 2 + 8*said
	if at+2 > len(body) {
		return false
	}
	return len(body) == at+2+16*int(binary.BigEndian.Uint16(body[at:]))
}

// A Body that could be read in two ways is read in the one that it says.
func TestGetOfOtherCountsThatFit(t *testing.T) {
	// Two N, of which the second begins with two noughts, and no W, or one N, no W, and 8 bytes more.
	two := lists(2, []int64{5, 0}, 0, nil)
	gets(t, laid(plain(), two), with(plain(), func(m *msg.Message) { m.N, m.W = []int64{5, 0}, nil }))
	two[1] = 1
	refusesBody(t, "one N of two", two)
	// Three N, of which the second begins with the number 1: one N, then one W of the 16 bytes behind that.
	three := lists(3, []int64{5, 1<<48 | 7, 8}, 0, nil)
	gets(t, laid(plain(), three), with(plain(), func(m *msg.Message) { m.N, m.W = []int64{5, 1<<48 | 7, 8}, nil }))
	three[1] = 1
	w := []api.Wide{{Hi: 7 << 16, Lo: 8 << 16}}
	gets(t, laid(plain(), three), with(plain(), func(m *msg.Message) { m.N, m.W = []int64{5}, w }))
}

// More than may be, though how many is told as it is, and the sum fits.
func TestGetOfTooMany(t *testing.T) {
	for _, count := range []int{501, 502, 511, 512, 513, 756, 1000, 1012, 1013} {
		refusesBody(t, fmt.Sprint(count, " N"), lists(count, wholes(count), 0, nil))
		refusesBody(t, fmt.Sprint(count, " N"), lists(count, make([]int64, count), 1, wides(1)))
		refusesBody(t, fmt.Sprint(count, " W"), lists(0, nil, count, wides(count)))
		refusesBody(t, fmt.Sprint(count, " W"), lists(1, wholes(1), count, make([]api.Wide, count)))
	}
	refusesBody(t, "501 N, 500 W", lists(501, wholes(501), 500, wides(500)))
	refusesBody(t, "500 N, 501 W", lists(500, wholes(500), 501, wides(501)))
	refusesBody(t, "501 N, 501 W", lists(501, wholes(501), 501, wides(501)))
	refusesBody(t, "the most N that are in a frame", lists(2047, wholes(2047), 0, nil))
	refusesBody(t, "the most W that are in a frame", lists(0, nil, 1023, wides(1023)))
	m := msg.Message{Kind: 1, N: wholes(500), W: wides(500)}
	gets(t, frame.Encode(frame.Frame{Kind: 1, Body: lists(500, m.N, 500, m.W)}), m)
}

// The lists in another order, or their numbers in another one's bytes.
func TestGetOfOtherLayouts(t *testing.T) {
	refusesBody(t, "W ahead of N", slices.Concat(lists(0, nil, 2, wides(2))[2:], lists(1, wholes(1), 0, nil)[:10]))
	refusesBody(t, "the lowest byte of how many first", slices.Concat([]byte{1, 0}, make([]byte, 8), []byte{0, 0}))
	refusesBody(t, "how many N and how many W, then both", slices.Concat([]byte{0, 1, 0, 1}, bytes.Repeat([]byte{9}, 24)))
	refusesBody(t, "how many in one byte", slices.Concat([]byte{1}, bytes.Repeat([]byte{9}, 8), []byte{0}))
	refusesBody(t, "how many in four bytes", make([]byte, 8))
}

// Bytes strewn by a rule of their own; all of the Bodies are in frames whose sum fits.
func TestGetOfStrewnBytes(t *testing.T) {
	state := uint32(5)
	next := func() uint32 {
		state = state*1664525 + 1013904223
		return state >> 16
	}
	for range 20000 {
		b := make([]byte, next()%60)
		for i := range b {
			b[i] = byte(next())
		}
		refuses(t, "strewn bytes", b)
		refuses(t, "strewn bytes, their sum right", summed(b))
		// No N, or one, so that some would be just so.
		body := slices.Concat([]byte{0, byte(next() % 2)}, make([]byte, 8*(next()%2)), []byte{0, byte(next() % 3)}, make([]byte, 16*(next()%3)))
		holds(t, body)
	}
}

// holds asks Get of a frame with a Body for what stands there, read by another road.
func holds(t *testing.T, body []byte) {
	t.Helper()
	n, rest, fits := part(body, 8)
	w, rest, fitsToo := part(rest, 16)
	if !fits || !fitsToo || len(rest) > 0 {
		refusesBody(t, "a Body that is not just so", body)
		return
	}
	m := msg.Message{Kind: 1}
	for ; len(n) > 0; n = n[8:] {
		m.N = append(m.N, int64(binary.BigEndian.Uint64(n)))
	}
	for ; len(w) > 0; w = w[16:] {
		m.W = append(m.W, api.Wide{Hi: int64(binary.BigEndian.Uint64(w)), Lo: binary.BigEndian.Uint64(w[8:])})
	}
	gets(t, frame.Encode(frame.Frame{Kind: 1, Body: body}), m)
}

// part takes a list of so many bytes each from a Body's front.
func part(b []byte, each int) (list, rest []byte, fits bool) {
	if len(b) < 2 || len(b)-2 < each*int(binary.BigEndian.Uint16(b)) {
		return nil, nil, false
	}
	end := 2 + each*int(binary.BigEndian.Uint16(b))
	return b[2:end], b[end:], true
}

// What was refused leaves nothing behind.
func TestGetBehindRefusals(t *testing.T) {
	b := msg.Put(plain())
	for n := range b {
		refuses(t, "a front", b[:n])
		gets(t, b, plain())
		refusesBody(t, "a front as a Body", b[:n])
		gets(t, b, plain())
	}
}

// Of two messages, one behind the other, none is told.
func TestGetOfTwo(t *testing.T) {
	one, other := msg.Put(msg.Message{Kind: 1}), msg.Put(plain())
	refuses(t, "two", append(bytes.Clone(one), other...))
	refuses(t, "two", append(bytes.Clone(other), one...))
	refusesBody(t, "a message as a Body", other)
}
