package msg_test

import (
	"bytes"
	"math"
	"slices"
	"strings"
	"testing"

	"carousel/api"
	"carousel/frame"
	"carousel/msg"
	"carousel/wide"
)

// byHand are messages with their bytes, worked out one by one.
func byHand() []struct {
	m msg.Message
	b string
} {
	noughts, ones := func(n int) string { return strings.Repeat("\x00", n) }, func(n int) string { return strings.Repeat("\xff", n) }
	return []struct {
		m msg.Message
		b string
	}{
		{msg.Message{Kind: 1},
			"\x52\x01\x01\x00\x00" + noughts(8) + "\x00\x04" + "\x00\x00" + "\x00\x00" + "\x6d\x82\xc3\xde"},
		{msg.Message{Kind: 1, N: []int64{0}},
			"\x52\x01\x01\x00\x00" + noughts(8) + "\x00\x0c" + "\x00\x01" + noughts(8) + "\x00\x00" + "\x22\x17\x34\xd3"},
		{msg.Message{Kind: 2, To: 1, View: 1, Seq: 2, N: []int64{-1}},
			"\x52\x01\x02\x00\x01" + "\x00\x00\x00\x01" + "\x00\x00\x00\x02" + "\x00\x0c" + "\x00\x01" + ones(8) + "\x00\x00" + "\xa1\xa5\x90\x48"},
		{msg.Message{Kind: 3, From: 1, To: 15, View: 0x01020304, Seq: 0x05060708, N: []int64{math.MaxInt64}},
			"\x52\x01\x03\x01\x0f" + "\x01\x02\x03\x04" + "\x05\x06\x07\x08" + "\x00\x0c" + "\x00\x01" + "\x7f" + ones(7) + "\x00\x00" + "\x35\x8a\xab\x7d"},
		{msg.Message{Kind: 19, From: 14, To: 2, View: 0xFEDCBA98, Seq: 0x76543210, N: []int64{math.MinInt64}},
			"\x52\x01\x13\x0e\x02" + "\xfe\xdc\xba\x98" + "\x76\x54\x32\x10" + "\x00\x0c" + "\x00\x01" + "\x80" + noughts(7) + "\x00\x00" + "\xdc\xfc\x61\x38"},
		{msg.Message{Kind: 1, W: []api.Wide{{}}},
			"\x52\x01\x01\x00\x00" + noughts(8) + "\x00\x14" + "\x00\x00" + "\x00\x01" + noughts(16) + "\x2a\x1c\x31\x11"},
		{msg.Message{Kind: 20, From: 15, To: 15, View: most32, Seq: most32, W: []api.Wide{{Hi: -1, Lo: most64}}},
			"\x52\x01\x14\x0f\x0f" + ones(8) + "\x00\x14" + "\x00\x00" + "\x00\x01" + ones(16) + "\x66\x06\x16\x2a"},
		{msg.Message{Kind: 7, From: 3, To: 4, View: 256, Seq: 65536, W: []api.Wide{{Hi: math.MaxInt64, Lo: most64}}},
			"\x52\x01\x07\x03\x04" + "\x00\x00\x01\x00" + "\x00\x01\x00\x00" + "\x00\x14" + "\x00\x00" + "\x00\x01" + "\x7f" + ones(15) + "\x45\x78\xf5\x68"},
		{msg.Message{Kind: 7, From: 3, To: 4, View: 256, Seq: 65536, W: []api.Wide{{Hi: math.MinInt64}}},
			"\x52\x01\x07\x03\x04" + "\x00\x00\x01\x00" + "\x00\x01\x00\x00" + "\x00\x14" + "\x00\x00" + "\x00\x01" + "\x80" + noughts(15) + "\x96\x70\x78\x27"},
		{msg.Message{Kind: 5, From: 4, To: 5, View: 2, Seq: 3, N: []int64{0x0102030405060708}, W: []api.Wide{{Hi: 0x1112131415161718, Lo: 0x2122232425262728}}},
			"\x52\x01\x05\x04\x05" + "\x00\x00\x00\x02" + "\x00\x00\x00\x03" + "\x00\x1c" +
				"\x00\x01" + "\x01\x02\x03\x04\x05\x06\x07\x08" +
				"\x00\x01" + "\x11\x12\x13\x14\x15\x16\x17\x18" + "\x21\x22\x23\x24\x25\x26\x27\x28" + "\xd4\x5c\xbe\xd1"},
		{msg.Message{Kind: 11, From: 5, To: 6, View: 1 << 31, Seq: 1 << 24, N: []int64{1, -2, 256}, W: []api.Wide{{Lo: 9}, {Hi: -1, Lo: most64 - 4}}},
			"\x52\x01\x0b\x05\x06" + "\x80\x00\x00\x00" + "\x01\x00\x00\x00" + "\x00\x3c" +
				"\x00\x03" + noughts(7) + "\x01" + ones(7) + "\xfe" + noughts(6) + "\x01\x00" +
				"\x00\x02" + noughts(15) + "\x09" + ones(15) + "\xfb" + "\xa3\x92\x72\x2d"},
		{msg.Message{Kind: 6, From: 1, To: 2, N: make([]int64, 500), W: make([]api.Wide, 500)},
			"\x52\x01\x06\x01\x02" + noughts(8) + "\x2e\xe4" + "\x01\xf4" + noughts(4000) + "\x01\xf4" + noughts(8000) + "\x10\x00\xb6\x98"},
		{msg.Message{Kind: 6, From: 2, To: 1, N: slices.Repeat([]int64{-1}, 500), W: slices.Repeat([]api.Wide{{Hi: -1, Lo: most64}}, 500)},
			"\x52\x01\x06\x02\x01" + noughts(8) + "\x2e\xe4" + "\x01\xf4" + ones(4000) + "\x01\xf4" + ones(8000) + "\xbb\x82\x7e\x21"},
	}
}

func TestPutByHand(t *testing.T) {
	for _, c := range byHand() {
		puts(t, c.m, []byte(c.b))
	}
}

func TestPutOfMany(t *testing.T) {
	for _, m := range goodOnes() {
		puts(t, m, whole(m))
	}
}

// What frame reads of it, and what wide's Put writes, are in it.
func TestPutIsAFrame(t *testing.T) {
	for _, m := range goodOnes() {
		f, err := frame.Decode(msg.Put(m))
		if err != api.OK || f.Kind != m.Kind || f.From != m.From || f.To != m.To || f.View != m.View || f.Seq != m.Seq {
			t.Fatalf("P19.1: Put of %s: frame's Decode tells %d", told(m), err)
		}
		if len(f.Body) != 4+8*len(m.N)+16*len(m.W) {
			t.Fatalf("P19.1: Put of %s: a Body of %d bytes", told(m), len(f.Body))
		}
		rest := f.Body[4+8*len(m.N):]
		for i, w := range m.W {
			if part := rest[16*i : 16*i+16]; string(part) != string(wide.Put(w)) {
				t.Fatalf("P19.1: Put of %s: Wide %d is %x", told(m), i, part)
			}
		}
	}
}

func TestPutOfEachNumber(t *testing.T) {
	for _, n := range edges() {
		m := with(plain(), func(m *msg.Message) { m.N = []int64{7, n, 7} })
		puts(t, m, whole(m))
	}
	for _, w := range wideEdges() {
		m := with(plain(), func(m *msg.Message) { m.W = []api.Wide{{Hi: 7, Lo: 8}, w, {Hi: 7, Lo: 8}} })
		puts(t, m, whole(m))
	}
}

func TestPutOfEachCount(t *testing.T) {
	for count := range most + 1 {
		n := with(plain(), func(m *msg.Message) { m.N = wholes(count) })
		puts(t, n, whole(n))
		w := with(plain(), func(m *msg.Message) { m.W = wides(count) })
		puts(t, w, whole(w))
	}
}

// Each field, changed alone, changes its own bytes alone, and the sum.
func TestPutFieldByField(t *testing.T) {
	before := msg.Put(plain())
	for _, c := range []struct {
		what   string
		at     int
		bytes  string
		change func(m *msg.Message)
	}{
		{"Kind", 2, "\x14", func(m *msg.Message) { m.Kind = 20 }},
		{"From", 3, "\x0e", func(m *msg.Message) { m.From = 14 }},
		{"To", 4, "\x00", func(m *msg.Message) { m.To = 0 }},
		{"View", 5, "\xf1\xf2\xf3\xf4", func(m *msg.Message) { m.View = 0xF1F2F3F4 }},
		{"Seq", 9, "\xe1\xe2\xe3\xe4", func(m *msg.Message) { m.Seq = 0xE1E2E3E4 }},
		{"first N", 17, "\xff\xff\xff\xff\xff\xff\xff\x01", func(m *msg.Message) { m.N[0] = -255 }},
		{"last N", 33, "\x00\x00\x00\x00\x00\x00\x01\x02", func(m *msg.Message) { m.N[2] = 258 }},
		{"first W's Hi", 43, "\xff\xff\xff\xff\xff\xff\xff\xfd", func(m *msg.Message) { m.W[0].Hi = -3 }},
		{"last W's Lo", 67, "\x01\x00\x00\x00\x00\x00\x00\x00", func(m *msg.Message) { m.W[1].Lo = 1 << 56 }},
	} {
		end := len(before) - 4
		wanted := bytes.Clone(before[:end])
		copy(wanted[c.at:], c.bytes)
		m := with(plain(), c.change)
		b := msg.Put(m)
		if string(b) != string(summed(wanted)) || string(b[end:]) == string(before[end:]) {
			t.Errorf("P19.1: Put of another %s: %x", c.what, b)
		}
	}
}

func TestPutOfWhatIsNotGood(t *testing.T) {
	for _, m := range wrongOnes() {
		puts(t, m, nil)
	}
}

// What was refused leaves nothing behind.
func TestPutBehindRefusals(t *testing.T) {
	wanted := whole(plain())
	for _, m := range wrongOnes() {
		puts(t, m, nil)
		puts(t, plain(), wanted)
	}
}

// No list and an empty one are one.
func TestPutOfNoList(t *testing.T) {
	wanted := msg.Put(msg.Message{Kind: 1})
	puts(t, msg.Message{Kind: 1, N: []int64{}, W: []api.Wide{}}, wanted)
	puts(t, msg.Message{Kind: 1, N: wholes(9)[:0], W: wides(9)[9:]}, wanted)
}
