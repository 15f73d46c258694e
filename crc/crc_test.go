package crc_test

import (
	"bytes"
	"hash/crc32"
	"math"
	"strings"
	"testing"

	"carousel/crc"
)

// divided reckons a sum by another road: the whole text, its bits turned and its first 32 bits
// turned over, is divided as one long polynomial, the highest power first.
func divided(b []byte) uint32 {
	var bits []uint32
	for _, v := range b {
		for i := range 8 {
			bits = append(bits, uint32(v>>i)&1)
		}
	}
	bits = append(bits, make([]uint32, 32)...)
	for i := range 32 {
		bits[i] ^= 1
	}
	const highestFirst = 0x04C11DB7
	for i := range len(bits) - 32 {
		if bits[i] == 0 {
			continue
		}
		for j := range 32 {
			bits[i+1+j] ^= uint32(highestFirst) >> (31 - j) & 1
		}
	}
	var sum uint32
	for i, bit := range bits[len(bits)-32:] {
		sum |= bit << i
	}
	return ^sum
}

// text has n bytes that hang on n and seed.
func text(n, seed int) []byte {
	b := make([]byte, n)
	state := uint32(n*7919 + seed)
	for i := range b {
		state = state*1664525 + 1013904223
		b[i] = byte(state >> 24)
	}
	return b
}

// sums has none and all of the bits, each bit alone, and some between.
func sums() []uint32 {
	all := []uint32{0, 2, 3421780262, 0xEDB88320, 0xDEADBEEF, 0x7FFFFFFF, 0xFFFFFFFE, math.MaxUint32}
	for i := range 32 {
		all = append(all, 1<<i, ^uint32(1<<i))
	}
	return all
}

// undone is the text of four bytes whose sum is c: what is summed on from c sums on from it too.
func undone(c uint32) []byte {
	sum := ^c
	for range 32 {
		if sum>>31 == 1 {
			sum = (sum^0xEDB88320)<<1 | 1
		} else {
			sum <<= 1
		}
	}
	sum ^= math.MaxUint32
	return []byte{byte(sum), byte(sum >> 8), byte(sum >> 16), byte(sum >> 24)}
}

func TestOfTexts(t *testing.T) {
	for _, c := range []struct {
		text string
		want uint32
	}{
		{"", 0},
		{"123456789", 3421780262},
		{"a", 0xE8B7BE43},
		{"abc", 0x352441C2},
		{"message digest", 0x20159D7F},
		{"abcdefghijklmnopqrstuvwxyz", 0x4C2750BD},
		{"The quick brown fox jumps over the lazy dog", 0x414FA339},
		{"\x00", 0xD202EF8D},
		{"\x80", 0x3FBA6CAD},
		{"\xff", 0xFF000000},
		{"\x00\x00\x00\x00", 0x2144DF1C},
		{"\xff\xff\xff\xff", 0xFFFFFFFF},
		{strings.Repeat("\x00", 32), 0x190A55AD},
		{strings.Repeat("\xff", 32), 0xFF6CAB0B},
	} {
		if got := crc.Of([]byte(c.text)); got != c.want {
			t.Errorf("P4.1: Of(%q): %d, want %d", c.text, got, c.want)
		}
	}
}

func TestOfNothing(t *testing.T) {
	for _, b := range [][]byte{nil, {}, make([]byte, 0, 9), []byte("xyz")[3:]} {
		if got := crc.Of(b); got != 0 {
			t.Errorf("P4.1: Of nothing (%#v): %d, want 0", b, got)
		}
	}
}

func TestOfOneByte(t *testing.T) {
	seen := make(map[uint32]int)
	for v := range 256 {
		b := []byte{byte(v)}
		got := crc.Of(b)
		if got != divided(b) || got != crc32.ChecksumIEEE(b) {
			t.Errorf("P4.1: Of(the byte %d): %d, want %d", v, got, divided(b))
		}
		if w, ok := seen[got]; ok {
			t.Errorf("P4.1: Of the bytes %d and %d: both %d", w, v, got)
		}
		seen[got] = v
	}
}

func TestOfManyBytes(t *testing.T) {
	for n := range 300 {
		for seed := range 3 {
			b := text(n, seed)
			if got, want := crc.Of(b), divided(b); got != want || want != crc32.ChecksumIEEE(b) {
				t.Fatalf("P4.1: Of %d bytes: %d, want %d", n, got, want)
			}
		}
	}
	long := text(1<<20+3, 1)
	if got, want := crc.Of(long), crc32.ChecksumIEEE(long); got != want {
		t.Errorf("P4.1: Of %d bytes: %d, want %d", len(long), got, want)
	}
}

func TestOfTellsTexts(t *testing.T) {
	b := text(40, 5)
	whole := crc.Of(b)
	for i := range len(b) * 8 {
		b[i/8] ^= 1 << (i % 8)
		if crc.Of(b) == whole {
			t.Errorf("P4.1: Of with bit %d turned is as without", i)
		}
		b[i/8] ^= 1 << (i % 8)
	}
	if crc.Of([]byte{1, 2}) == crc.Of([]byte{2, 1}) {
		t.Errorf("P4.1: Of does not hang on the order of the bytes")
	}
	if crc.Of([]byte{0, 1}) == crc.Of([]byte{1}) || crc.Of([]byte{1, 0}) == crc.Of([]byte{1}) {
		t.Errorf("P4.1: Of does not hang on bytes of 0")
	}
}

func TestMoreCutAnywhere(t *testing.T) {
	for n := range 120 {
		b := text(n, 2)
		want := divided(b)
		for cut := range n + 1 {
			if got := crc.More(crc.Of(b[:cut]), b[cut:]); got != want {
				t.Fatalf("P4.1: More of %d and %d bytes: %d, want %d", cut, n-cut, got, want)
			}
		}
	}
}

func TestMoreByteByByte(t *testing.T) {
	b := text(500, 3)
	sum := crc.Of(nil)
	for i, v := range b {
		sum = crc.More(sum, []byte{v})
		if want := crc.Of(b[:i+1]); sum != want {
			t.Fatalf("P4.1: More, byte by byte, of %d bytes: %d, want %d", i+1, sum, want)
		}
	}
}

func TestMoreOfThreeParts(t *testing.T) {
	b := text(24, 4)
	want := divided(b)
	for i := range len(b) + 1 {
		for j := i; j <= len(b); j++ {
			if got := crc.More(crc.More(crc.Of(b[:i]), b[i:j]), b[j:]); got != want {
				t.Fatalf("P4.1: More, cut at %d and %d: %d, want %d", i, j, got, want)
			}
		}
	}
}

func TestMoreOfNothing(t *testing.T) {
	for _, c := range sums() {
		for _, b := range [][]byte{nil, {}, make([]byte, 0, 9)} {
			if got := crc.More(c, b); got != c {
				t.Errorf("P4.1: More(%d, nothing): %d", c, got)
			}
		}
	}
}

func TestMoreOfAnySum(t *testing.T) {
	for _, c := range sums() {
		a := undone(c)
		if divided(a) != c {
			t.Fatalf("the test's own text of sum %d is wrong: %v", c, a)
		}
		for n := range 40 {
			b := text(n, 6)
			got, want := crc.More(c, b), divided(append(a[:4:4], b...))
			if got != want || want != crc32.Update(c, crc32.IEEETable, b) {
				t.Fatalf("P4.1: More(%d, %d bytes): %d, want %d", c, n, got, want)
			}
		}
	}
}

func TestMoreOfNoSumYet(t *testing.T) {
	for n := range 40 {
		b := text(n, 7)
		if got, want := crc.More(0, b), divided(b); got != want {
			t.Errorf("P4.1: More(0, %d bytes): %d, want %d", n, got, want)
		}
	}
}

func TestHandedInStays(t *testing.T) {
	room := text(64, 8)
	before := bytes.Clone(room)
	b := room[8:40]
	first, second := crc.Of(b), crc.More(math.MaxUint32, b)
	if !bytes.Equal(room, before) {
		t.Errorf("P4.1: what was handed in, or the room about it, is changed")
	}
	if crc.Of(b) != first || crc.More(math.MaxUint32, b) != second {
		t.Errorf("P4.1: asked again, the sums are others")
	}
	for i := range room {
		if i < 8 || i >= 40 {
			room[i] ^= 0xFF
		}
	}
	if crc.Of(b) != first || crc.More(math.MaxUint32, b) != second {
		t.Errorf("P4.1: the sums hang on the room about what was handed in")
	}
}
