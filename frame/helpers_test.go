package frame_test

import (
	"encoding/binary"
	"fmt"
	"hash/crc32"
	"math"
	"testing"

	"carousel/api"
	"carousel/frame"
)

const most32 = math.MaxUint32

// plain is a frame whose bytes are all others, where they can be.
func plain() frame.Frame {
	return frame.Frame{Kind: 3, From: 2, To: 15, View: 0x04050607, Seq: 0x08090A0B, Body: []byte("hello")}
}

// with is a frame that is changed in one place.
func with(f frame.Frame, change func(f *frame.Frame)) frame.Frame {
	change(&f)
	return f
}

// counting is so many bytes that hardly repeat.
func counting(n int) []byte {
	b := make([]byte, n)
	for i := range b {
		b[i] = byte(i % 251)
	}
	return b
}

// told leaves out what nobody would read.
func told(f frame.Frame) string {
	return fmt.Sprintf("Kind %d, From %d, To %d, View %d, Seq %d, %d bytes %x", f.Kind, f.From, f.To, f.View, f.Seq, len(f.Body), short(f.Body))
}

func short(b []byte) []byte { return b[:min(len(b), 40)] }

func alike(a, b frame.Frame) bool {
	return a.Kind == b.Kind && a.From == b.From && a.To == b.To && a.View == b.View && a.Seq == b.Seq && string(a.Body) == string(b.Body)
}

// laid lays a frame's bytes by another road than Encode, be it good or not, but for their sum.
func laid(f frame.Frame) []byte {
	b := make([]byte, 15, 15+len(f.Body))
	b[0], b[1], b[2], b[3], b[4] = 'R', 1, byte(f.Kind), byte(f.From), byte(f.To)
	binary.BigEndian.PutUint32(b[5:], f.View)
	binary.BigEndian.PutUint32(b[9:], f.Seq)
	binary.BigEndian.PutUint16(b[13:], uint16(len(f.Body)))
	return append(b, f.Body...)
}

// summed puts the sum that fits behind bytes.
func summed(b []byte) []byte {
	return binary.BigEndian.AppendUint32(b[:len(b):len(b)], crc32.ChecksumIEEE(b))
}

// farOff are numbers beyond every range; some would not be, if only some of their bits were taken.
func farOff() []int {
	return []int{-1, -2, -15, -20, -255, -256, -1<<8 + 3, -1<<16 + 3, -1<<32 + 3, -1 << 32, math.MinInt, math.MinInt + 3,
		21, 22, 31, 32, 100, 128, 255, 256, 257, 259, 1<<9 + 3, 1<<16 + 3, 1<<31 + 3, 1 << 32, 1<<32 + 3, 1<<62 + 3, math.MaxInt - 1, math.MaxInt}
}

// bodies are of none, of one, about a byte's and a number's bounds, and of the most that may be.
func bodies() [][]byte {
	return [][]byte{nil, {}, {0}, {82}, {255}, {0, 0}, {82, 1}, counting(254), counting(255), counting(256), counting(257),
		counting(4096), counting(api.MaxBody - 1), counting(api.MaxBody), make([]byte, api.MaxBody)}
}

// wide are bodies of more than may be; the length of some would be, if only 16 bits of it were taken.
func wide() [][]byte {
	return [][]byte{counting(api.MaxBody + 1), counting(api.MaxBody + 2), counting(2 * api.MaxBody), counting(1<<16 - 1),
		counting(1 << 16), counting(1<<16 + 1), counting(1<<16 + api.MaxBody), counting(1 << 20)}
}

// goodOnes are frames that may be: each field's bounds, in all ways of putting them together.
func goodOnes() []frame.Frame {
	var all []frame.Frame
	for _, kind := range []int{1, 2, 19, 20} {
		for _, from := range []int{0, 1, 14, 15} {
			for _, to := range []int{0, 1, 14, 15} {
				for _, view := range []uint32{0, 1, 0x01020304, most32} {
					for _, seq := range []uint32{0, 1, 0xFEDCBA98, most32} {
						body := counting((kind + from + to + int(view&3) + int(seq&3)) % 7)
						all = append(all, frame.Frame{Kind: kind, From: from, To: to, View: view, Seq: seq, Body: body})
					}
				}
			}
		}
	}
	for _, body := range bodies() {
		all = append(all, with(plain(), func(f *frame.Frame) { f.Body = body }))
	}
	return all
}

// wrongOnes are frames that may not be, each by one field alone, or by all of them.
func wrongOnes() []frame.Frame {
	all := []frame.Frame{
		{},
		with(plain(), func(f *frame.Frame) { f.Kind = 0 }),
		with(plain(), func(f *frame.Frame) { f.From = 16 }),
		with(plain(), func(f *frame.Frame) { f.From = 17 }),
		with(plain(), func(f *frame.Frame) { f.To = 16 }),
		with(plain(), func(f *frame.Frame) { f.To = 17 }),
		{Kind: 21, From: 16, To: 16, Body: counting(api.MaxBody + 1)},
	}
	for _, v := range farOff() {
		all = append(all,
			with(plain(), func(f *frame.Frame) { f.Kind = v }),
			with(plain(), func(f *frame.Frame) { f.From = v }),
			with(plain(), func(f *frame.Frame) { f.To = v }))
	}
	for _, body := range wide() {
		all = append(all, with(plain(), func(f *frame.Frame) { f.Body = body }))
	}
	return all
}

func isGood(t *testing.T, f frame.Frame, wanted bool) {
	t.Helper()
	if frame.Good(f) != wanted {
		t.Errorf("P18.1: Good of %s: %t", told(f), !wanted)
	}
}

func encodes(t *testing.T, f frame.Frame, wanted []byte) {
	t.Helper()
	if b := frame.Encode(f); string(b) != string(wanted) {
		t.Errorf("P18.1: Encode of %s: %d bytes %x, want %d bytes %x", told(f), len(b), short(b), len(wanted), short(wanted))
	}
}

// decodes asks Decode for a frame.
func decodes(t *testing.T, b []byte, wanted frame.Frame) {
	t.Helper()
	if f, err := frame.Decode(b); err != api.OK || !alike(f, wanted) {
		t.Errorf("P18.1: Decode of %d bytes %x: %s, %d, want %s", len(b), short(b), told(f), err, told(wanted))
	}
}

// refuses asks Decode for EFORM and for nothing beside it.
func refuses(t *testing.T, what string, b []byte) {
	t.Helper()
	if f, err := frame.Decode(b); err != api.EFORM || !alike(f, frame.Frame{}) {
		t.Errorf("P18.1: Decode of %s, %d bytes %x: %s, %d, want none, %d", what, len(b), short(b), told(f), err, api.EFORM)
	}
}
