package frame_test

import (
	"bytes"
	"encoding/binary"
	"fmt"
	"hash/crc32"
	"testing"

	"carousel/api"
	"carousel/frame"
)

func TestDecodeByHand(t *testing.T) {
	for _, c := range byHand() {
		decodes(t, []byte(c.b), c.f)
	}
}

func TestDecodeOfWhatEncodeGives(t *testing.T) {
	for _, f := range goodOnes() {
		b := frame.Encode(f)
		decodes(t, b, f)
		g, _ := frame.Decode(b)
		if !bytes.Equal(frame.Encode(g), b) {
			t.Errorf("P18.1: Encode of what Decode tells of %s: other bytes", told(f))
		}
	}
}

func TestDecodeOfEachKindAndWorker(t *testing.T) {
	for kind := range 256 {
		for other := range 256 {
			for _, f := range []frame.Frame{{Kind: kind, From: other, To: 3}, {Kind: kind, From: 3, To: other}} {
				b := summed(laid(f))
				if kind >= 1 && kind <= 20 && other <= 15 {
					decodes(t, b, f)
				} else {
					refuses(t, "what can't be, its sum right", b)
				}
			}
		}
	}
}

func TestDecodeOfNothing(t *testing.T) {
	refuses(t, "nothing", nil)
	refuses(t, "nothing", []byte{})
	refuses(t, "nothing", frame.Encode(plain())[:0])
}

func TestDecodeOfEachFront(t *testing.T) {
	for _, body := range [][]byte{nil, {7}, []byte("hello"), counting(300)} {
		b := frame.Encode(with(plain(), func(f *frame.Frame) { f.Body = body }))
		for n := range b {
			refuses(t, "a front", b[:n])
			// Of all fronts, the one that lacks just its sum becomes the frame again.
			if n != len(b)-4 {
				refuses(t, "a front, its sum right", summed(b[:n]))
			}
		}
		decodes(t, b, with(plain(), func(f *frame.Frame) { f.Body = body }))
	}
	long := frame.Encode(with(plain(), func(f *frame.Frame) { f.Body = counting(api.MaxBody) }))
	for _, n := range []int{0, 1, 14, 15, 16, 18, 19, 20, 16000, api.MaxBody, len(long) - 5, len(long) - 4, len(long) - 3, len(long) - 2, len(long) - 1} {
		refuses(t, "a front of a long one", long[:n])
	}
}

// A front that is missing what is ahead of it.
func TestDecodeOfEachEnd(t *testing.T) {
	b := frame.Encode(plain())
	for n := 1; n <= len(b); n++ {
		refuses(t, "an end", b[n:])
	}
}

func TestDecodeOfMoreBehind(t *testing.T) {
	for _, body := range bodies() {
		b := frame.Encode(with(plain(), func(f *frame.Frame) { f.Body = body }))
		for _, more := range []string{"\x00", "\x01", "\xff", "\x00\x00\x00\x00", string(b[len(b)-4:]), string(b)} {
			longer := append(bytes.Clone(b), more...)
			refuses(t, "one with more behind", longer)
			refuses(t, "one with more behind, its sum right", summed(longer))
			refuses(t, "one with more ahead", append([]byte(more), b...))
		}
	}
}

// Of two frames, one behind the other, none is told.
func TestDecodeOfTwo(t *testing.T) {
	one, other := frame.Encode(frame.Frame{Kind: 1}), frame.Encode(plain())
	refuses(t, "two", append(bytes.Clone(one), other...))
	refuses(t, "two", append(bytes.Clone(other), one...))
}

// Each byte by itself, turned to each other one.
func TestDecodeOfEachByteChanged(t *testing.T) {
	for _, f := range []frame.Frame{{Kind: 1}, plain(), {Kind: 20, From: 15, To: 0, View: most32, Body: counting(60)}} {
		b := frame.Encode(f)
		for i := range b {
			for turn := 1; turn < 256; turn++ {
				spoilt := bytes.Clone(b)
				spoilt[i] ^= byte(turn)
				refuses(t, fmt.Sprint("one whose byte is another, ", i), spoilt)
			}
		}
		decodes(t, b, f)
	}
}

func TestDecodeOfALongOneChanged(t *testing.T) {
	b := frame.Encode(with(plain(), func(f *frame.Frame) { f.Body = counting(api.MaxBody) }))
	for i := 0; i < len(b); i += 1 + i/20 {
		b[i] ^= 16
		refuses(t, fmt.Sprint("a long one whose byte is another, ", i), b)
		b[i] ^= 16
	}
	for i := len(b) - 5; i < len(b); i++ {
		b[i] ^= 1
		refuses(t, fmt.Sprint("a long one whose byte is another, ", i), b)
		b[i] ^= 1
	}
}

// Each two bits turned.
func TestDecodeOfTwoBitsTurned(t *testing.T) {
	b := frame.Encode(plain())
	for i := range len(b) * 8 {
		for j := range i {
			b[i/8] ^= 1 << (i % 8)
			b[j/8] ^= 1 << (j % 8)
			refuses(t, fmt.Sprint("one with two bits turned, ", j, " and ", i), b)
			b[i/8] ^= 1 << (i % 8)
			b[j/8] ^= 1 << (j % 8)
		}
	}
}

// at is a plain frame's bytes with another one at a place, and the sum that fits.
func at(place int, v byte) []byte {
	b := laid(plain())
	b[place] = v
	return summed(b)
}

func TestDecodeOfOtherFirstBytes(t *testing.T) {
	for v := range 256 {
		if v != 82 {
			refuses(t, "another first byte, its sum right", at(0, byte(v)))
		}
		if v != 1 {
			refuses(t, "another second byte, its sum right", at(1, byte(v)))
		}
	}
	decodes(t, at(0, 82), plain())
	decodes(t, at(1, 1), plain())
}

func TestDecodeOfFieldsThatCannotBe(t *testing.T) {
	for v := range 256 {
		kind := with(plain(), func(f *frame.Frame) { f.Kind = v })
		from := with(plain(), func(f *frame.Frame) { f.From = v })
		to := with(plain(), func(f *frame.Frame) { f.To = v })
		for place, f := range map[int]frame.Frame{2: kind, 3: from, 4: to} {
			if b := at(place, byte(v)); frame.Good(f) {
				decodes(t, b, f)
			} else {
				refuses(t, "a field that can't be, its sum right", b)
			}
		}
	}
}

// What is said of the length, and what there is; the sum fits.
func TestDecodeOfOtherLengths(t *testing.T) {
	for there := range 40 {
		for said := range 300 {
			b := laid(frame.Frame{Kind: 3, From: 1, To: 2, View: 5, Seq: 6, Body: counting(there)})
			binary.BigEndian.PutUint16(b[13:], uint16(said))
			if said == there {
				decodes(t, summed(b), frame.Frame{Kind: 3, From: 1, To: 2, View: 5, Seq: 6, Body: counting(there)})
			} else {
				refuses(t, "another length, its sum right", summed(b))
			}
		}
	}
	for _, said := range []uint16{4, 6, 256, 5 << 8, 256 + 5, 1<<14 - 1, 1 << 14, 1<<14 + 5, 1 << 15, 1<<15 + 5, 1<<16 - 1, 1<<16 - 5} {
		b := laid(plain())
		binary.BigEndian.PutUint16(b[13:], said)
		refuses(t, "another length, its sum right", summed(b))
	}
}

// The length that is said takes the sum for a part of the Body, or leaves bytes between the two.
func TestDecodeOfASumElsewhere(t *testing.T) {
	b := laid(plain())
	b[14] = 9
	refuses(t, "a sum within the Body", summed(b))
	b[14] = 1
	refuses(t, "a Body past its length", summed(b))
	refuses(t, "a sum ahead of the Body's rest", append(summed(b[:16]), "ello"...))
}

// More than may be, though the length is told as it is, and the sum fits.
func TestDecodeOfAWideBody(t *testing.T) {
	for _, body := range wide() {
		b := laid(with(plain(), func(f *frame.Frame) { f.Body = body }))
		refuses(t, "a wide Body, its sum right", summed(b))
	}
	f := with(plain(), func(f *frame.Frame) { f.Body = counting(api.MaxBody) })
	decodes(t, summed(laid(f)), f)
}

func TestDecodeOfOtherSums(t *testing.T) {
	head := laid(plain())
	right := crc32.ChecksumIEEE(head)
	for _, sum := range []uint32{0, 1, most32, ^right, right + 1, right - 1, right << 8, right >> 8, right<<16 | right>>16,
		crc32.ChecksumIEEE(head[15:]), crc32.ChecksumIEEE(head[2:]), crc32.ChecksumIEEE(head[:15]), crc32.ChecksumIEEE(append(bytes.Clone(head), 0, 0, 0, 0))} {
		refuses(t, "another sum", binary.BigEndian.AppendUint32(bytes.Clone(head), sum))
	}
	refuses(t, "the lowest byte of the sum first", binary.LittleEndian.AppendUint32(bytes.Clone(head), right))
	refuses(t, "no sum", head)
	decodes(t, binary.BigEndian.AppendUint32(bytes.Clone(head), right), plain())
}

func TestDecodeOfNoughtsAndOnes(t *testing.T) {
	for n := range 100 {
		for _, v := range []byte{0, 1, 82, 255} {
			b := bytes.Repeat([]byte{v}, n)
			refuses(t, "one byte again and again", b)
			refuses(t, "one byte again and again, their sum right", summed(b))
		}
	}
}

// Bytes strewn by a rule of their own; some have a front or a sum that fits.
func TestDecodeOfStrewnBytes(t *testing.T) {
	state := uint32(5)
	next := func() uint32 {
		state = state*1664525 + 1013904223
		return state >> 16
	}
	for range 20000 {
		b := make([]byte, next()%60)
		for i := range b {
			b[i] = byte(next())
		}
		refuses(t, "strewn bytes", b)
		refuses(t, "strewn bytes, their sum right", summed(b))
		refuses(t, "strewn bytes behind a head", append(laid(plain()), b...))
	}
}

// What was refused leaves nothing behind, and what was told is told again.
func TestDecodeBehindRefusals(t *testing.T) {
	b := frame.Encode(plain())
	for n := range b {
		refuses(t, "a front", b[:n])
		decodes(t, b, plain())
	}
}
