package msg_test

import (
	"encoding/binary"
	"fmt"
	"hash/crc32"
	"math"
	"slices"
	"testing"

	"carousel/api"
	"carousel/msg"
)

const (
	most   = 500
	most32 = math.MaxUint32
	most64 = math.MaxUint64
)

// plain is a message whose bytes are all others, where they can be.
func plain() msg.Message {
	return msg.Message{Kind: 3, From: 2, To: 15, View: 0x04050607, Seq: 0x08090A0B, N: wholes(3), W: wides(2)}
}

// with is a message that is changed in one place.
func with(m msg.Message, change func(m *msg.Message)) msg.Message {
	change(&m)
	return m
}

// wholes are so many numbers that do not repeat, some of them below 0.
func wholes(count int) []int64 {
	list := make([]int64, count)
	for i := range list {
		list[i] = int64(i+1) * 0x7235_8D1B_4C6E_2F93
	}
	return list
}

// wides are so many that do not repeat, some of them below 0.
func wides(count int) []api.Wide {
	list := make([]api.Wide, count)
	for i := range list {
		list[i] = api.Wide{Hi: int64(i+1) * 0x5B1D_93E7_24C8_6FA1, Lo: uint64(i+1) * 0x9E37_79B9_7F4A_7C15}
	}
	return list
}

// told leaves out what nobody would read.
func told(m msg.Message) string {
	return fmt.Sprintf("Kind %d, From %d, To %d, View %d, Seq %d, %d N %d, %d W %d",
		m.Kind, m.From, m.To, m.View, m.Seq, len(m.N), m.N[:min(len(m.N), 4)], len(m.W), m.W[:min(len(m.W), 4)])
}

func short(b []byte) []byte { return b[:min(len(b), 60)] }

// alike is held by another road than Same.
func alike(a, b msg.Message) bool { return fmt.Sprint(a) == fmt.Sprint(b) }

// isNone tells whether there is nothing in a message.
func isNone(m msg.Message) bool { return alike(m, msg.Message{}) }

// lists lays a Body by another road than Put, and says of it that it has so many of either.
func lists(saidN int, n []int64, saidW int, w []api.Wide) []byte {
	b := binary.BigEndian.AppendUint16(nil, uint16(saidN))
	for _, v := range n {
		b = binary.BigEndian.AppendUint64(b, uint64(v))
	}
	b = binary.BigEndian.AppendUint16(b, uint16(saidW))
	for _, v := range w {
		b = binary.BigEndian.AppendUint64(b, uint64(v.Hi))
		b = binary.BigEndian.AppendUint64(b, v.Lo)
	}
	return b
}

// laid lays a message's bytes by another road than Put, be it good or not, with another Body than its own.
func laid(m msg.Message, body []byte) []byte {
	b := []byte{'R', 1, byte(m.Kind), byte(m.From), byte(m.To)}
	b = binary.BigEndian.AppendUint32(b, m.View)
	b = binary.BigEndian.AppendUint32(b, m.Seq)
	b = binary.BigEndian.AppendUint16(b, uint16(len(body)))
	return summed(append(b, body...))
}

// whole lays a message's bytes with its own Body.
func whole(m msg.Message) []byte { return laid(m, lists(len(m.N), m.N, len(m.W), m.W)) }

// summed puts the sum that fits behind bytes.
func summed(b []byte) []byte {
	return binary.BigEndian.AppendUint32(b[:len(b):len(b)], crc32.ChecksumIEEE(b))
}

// farOff are numbers beyond every range; some would not be, if only some of their bits were taken.
func farOff() []int {
	return []int{-1, -2, -15, -20, -255, -256, -1<<8 + 3, -1<<16 + 3, -1<<32 + 3, -1 << 32, math.MinInt, math.MinInt + 3,
		21, 22, 31, 32, 100, 128, 255, 256, 257, 259, 1<<9 + 3, 1<<16 + 3, 1<<31 + 3, 1 << 32, 1<<32 + 3, 1<<62 + 3, math.MaxInt - 1, math.MaxInt}
}

// edges are whole numbers at their bounds and about them.
func edges() []int64 {
	return []int64{0, 1, -1, 2, -2, 127, 128, 255, 256, -128, -129, -256, 1 << 15, 1 << 16, -1 << 16, math.MaxInt32, math.MinInt32,
		1 << 32, -1 << 32, 0x0102030405060708, -0x0102030405060708, math.MaxInt64, math.MaxInt64 - 1, math.MinInt64, math.MinInt64 + 1}
}

// wideEdges are Wides at the bounds of either word.
func wideEdges() []api.Wide {
	var all []api.Wide
	for _, hi := range edges() {
		for _, lo := range []uint64{0, 1, 255, 256, 1 << 32, 0x0102030405060708, 1<<63 - 1, 1 << 63, most64 - 1, most64} {
			all = append(all, api.Wide{Hi: hi, Lo: lo})
		}
	}
	return all
}

// goodOnes are messages that may be: each field's bounds, and of either list none, one, some, and the most.
func goodOnes() []msg.Message {
	all := []msg.Message{
		{Kind: 1},
		{Kind: 20, From: 15, To: 15, View: most32, Seq: most32, N: edges(), W: wideEdges()},
		{Kind: 1, N: []int64{}, W: []api.Wide{}},
		{Kind: 7, N: make([]int64, most), W: make([]api.Wide, most)},
		{Kind: 7, N: slices.Repeat([]int64{-1}, most), W: slices.Repeat([]api.Wide{{Hi: -1, Lo: most64}}, most)},
	}
	for _, kind := range []int{1, 2, 19, 20} {
		for _, from := range []int{0, 1, 14, 15} {
			for _, to := range []int{0, 1, 14, 15} {
				all = append(all, with(plain(), func(m *msg.Message) { m.Kind, m.From, m.To = kind, from, to }))
			}
		}
	}
	for _, v := range []uint32{0, 1, 0x01020304, 1 << 31, most32} {
		all = append(all,
			with(plain(), func(m *msg.Message) { m.View = v }),
			with(plain(), func(m *msg.Message) { m.Seq = v }))
	}
	for _, n := range counts() {
		for _, w := range counts() {
			all = append(all, with(plain(), func(m *msg.Message) { m.N, m.W = wholes(n), wides(w) }))
		}
	}
	return all
}

// counts are how many there may be in a list, about a byte's and a list's bounds.
func counts() []int { return []int{0, 1, 2, 3, 255, 256, 257, most - 1, most} }

// tooMany are how many there may not be; some could, if only some of their bits were taken.
func tooMany() []int {
	return []int{most + 1, most + 2, 511, 512, 2 * most, 1<<11 + 3, 1<<16 - 1, 1 << 16, 1<<16 + 1, 1<<16 + most}
}

// wrongOnes are messages that may not be, each by one reason alone, or by all of them.
func wrongOnes() []msg.Message {
	all := []msg.Message{
		{},
		with(plain(), func(m *msg.Message) { m.Kind = 0 }),
		with(plain(), func(m *msg.Message) { m.From = 16 }),
		with(plain(), func(m *msg.Message) { m.From = 17 }),
		with(plain(), func(m *msg.Message) { m.To = 16 }),
		with(plain(), func(m *msg.Message) { m.To = 17 }),
		{Kind: 21, From: 16, To: 16, N: wholes(most + 1), W: wides(most + 1)},
	}
	for _, v := range farOff() {
		all = append(all,
			with(plain(), func(m *msg.Message) { m.Kind = v }),
			with(plain(), func(m *msg.Message) { m.From = v }),
			with(plain(), func(m *msg.Message) { m.To = v }))
	}
	for _, count := range tooMany() {
		all = append(all,
			with(plain(), func(m *msg.Message) { m.N = wholes(count) }),
			with(plain(), func(m *msg.Message) { m.W = wides(count) }),
			with(plain(), func(m *msg.Message) { m.N, m.W = wholes(count), nil }),
			with(plain(), func(m *msg.Message) { m.N, m.W = nil, wides(count) }))
	}
	return all
}

func isGood(t *testing.T, m msg.Message, wanted bool) {
	t.Helper()
	if msg.Good(m) != wanted {
		t.Errorf("P19.1: Good of %s: %t", told(m), !wanted)
	}
}

func puts(t *testing.T, m msg.Message, wanted []byte) {
	t.Helper()
	if b := msg.Put(m); string(b) != string(wanted) {
		t.Errorf("P19.1: Put of %s: %d bytes %x, want %d bytes %x", told(m), len(b), short(b), len(wanted), short(wanted))
	}
}

// gets asks Get for a message.
func gets(t *testing.T, b []byte, wanted msg.Message) {
	t.Helper()
	if m, err := msg.Get(b); err != api.OK || !alike(m, wanted) {
		t.Errorf("P19.1: Get of %d bytes %x: %s, %d, want %s", len(b), short(b), told(m), err, told(wanted))
	}
}

// refuses asks Get for EFORM and for nothing beside it.
func refuses(t *testing.T, what string, b []byte) {
	t.Helper()
	if m, err := msg.Get(b); err != api.EFORM || !isNone(m) {
		t.Errorf("P19.1: Get of %s, %d bytes %x: %s, %d, want none, %d", what, len(b), short(b), told(m), err, api.EFORM)
	}
}

// areSame asks Same of two, and of the two turned round.
func areSame(t *testing.T, a, b msg.Message, wanted bool) {
	t.Helper()
	if msg.Same(a, b) != wanted || msg.Same(b, a) != wanted {
		t.Errorf("P19.1: Same of %s, and %s: want %t", told(a), told(b), wanted)
	}
}
