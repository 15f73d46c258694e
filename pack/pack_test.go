package pack_test

import (
	"bytes"
	"encoding/binary"
	"math"
	"testing"

	"carousel/pack"
)

// writers are the three that write, each given the low bits of one number.
var writers = []struct {
	name string
	n    int
	put  func(b []byte, v uint64) []byte
}{
	{"U16", 2, func(b []byte, v uint64) []byte { return pack.U16(b, int(v)) }},
	{"U32", 4, func(b []byte, v uint64) []byte { return pack.U32(b, uint32(v)) }},
	{"U64", 8, func(b []byte, v uint64) []byte { return pack.U64(b, v) }},
}

// numbers has every power of two, its neighbours, and some that fill all bytes.
func numbers() []uint64 {
	all := []uint64{0, 0x0102030405060708, 0xfedcba9876543210, math.MaxUint64}
	for i := range 64 {
		p := uint64(1) << i
		all = append(all, p-1, p, p+1, -p)
	}
	return all
}

func TestU16(t *testing.T) {
	for _, c := range []struct {
		v    int
		want string
	}{
		{0, "\x00\x00"},
		{1, "\x00\x01"},
		{255, "\x00\xff"},
		{256, "\x01\x00"},
		{258, "\x01\x02"},
		{0x7fff, "\x7f\xff"},
		{0x8000, "\x80\x00"},
		{65535, "\xff\xff"},
		{65536, "\x00\x00"},
		{65537, "\x00\x01"},
		{65536 + 258, "\x01\x02"},
		{0x12345678, "\x56\x78"},
		{-1, "\xff\xff"},
		{-2, "\xff\xfe"},
		{-256, "\xff\x00"},
		{-65535, "\x00\x01"},
		{-65536, "\x00\x00"},
		{-65537, "\xff\xff"},
		{math.MaxInt, "\xff\xff"},
		{math.MinInt, "\x00\x00"},
		{math.MinInt + 1, "\x00\x01"},
	} {
		if got := pack.U16(nil, c.v); string(got) != c.want {
			t.Errorf("P3.1: U16(nil, %d): %x, want %x", c.v, got, c.want)
		}
	}
}

func TestU32(t *testing.T) {
	for _, c := range []struct {
		v    uint32
		want string
	}{
		{0, "\x00\x00\x00\x00"},
		{1, "\x00\x00\x00\x01"},
		{65536, "\x00\x01\x00\x00"},
		{0x01020304, "\x01\x02\x03\x04"},
		{1 << 31, "\x80\x00\x00\x00"},
		{math.MaxUint32, "\xff\xff\xff\xff"},
	} {
		if got := pack.U32(nil, c.v); string(got) != c.want {
			t.Errorf("P3.1: U32(nil, %d): %x, want %x", c.v, got, c.want)
		}
	}
}

func TestU64(t *testing.T) {
	for _, c := range []struct {
		v    uint64
		want string
	}{
		{0, "\x00\x00\x00\x00\x00\x00\x00\x00"},
		{1, "\x00\x00\x00\x00\x00\x00\x00\x01"},
		{1 << 32, "\x00\x00\x00\x01\x00\x00\x00\x00"},
		{0x0102030405060708, "\x01\x02\x03\x04\x05\x06\x07\x08"},
		{1 << 63, "\x80\x00\x00\x00\x00\x00\x00\x00"},
		{math.MaxUint64, "\xff\xff\xff\xff\xff\xff\xff\xff"},
	} {
		if got := pack.U64(nil, c.v); string(got) != c.want {
			t.Errorf("P3.1: U64(nil, %d): %x, want %x", c.v, got, c.want)
		}
	}
}

func TestWritesTheLowestBitsBehind(t *testing.T) {
	for _, w := range writers {
		for _, b := range []string{"", "x", "abcdefghi", string(make([]byte, 1000))} {
			for _, v := range numbers() {
				low := binary.BigEndian.AppendUint64(nil, v)[8-w.n:]
				if got := w.put([]byte(b), v); string(got) != b+string(low) {
					t.Errorf("P3.1: %s(%x, %d): %x", w.name, b, v, got)
				}
			}
		}
	}
}

func TestWritesOneBehindAnother(t *testing.T) {
	got := pack.U16(pack.U64(pack.U32([]byte("x"), 0x03040506), 0x0708090a0b0c0d0e), 0x0f10)
	if string(got) != "x\x03\x04\x05\x06\x07\x08\x09\x0a\x0b\x0c\x0d\x0e\x0f\x10" {
		t.Errorf("P3.1: U32, U64, U16: %x", got)
	}
}

func TestWritingLeavesWhatItIsGiven(t *testing.T) {
	for _, w := range writers {
		room := bytes.Repeat([]byte{7}, 64)
		got := w.put(room[:3], math.MaxUint64)
		if !bytes.Equal(room, bytes.Repeat([]byte{7}, 64)) {
			t.Errorf("P3.1: %s changed what it was given, or its spare room: %v", w.name, room)
		}
		spoil(got)
		if !bytes.Equal(room, bytes.Repeat([]byte{7}, 64)) {
			t.Errorf("P3.1: %s answered what it was given: %v", w.name, room)
		}
	}
}

func TestWhatIsWrittenIsNewMemory(t *testing.T) {
	for _, w := range writers {
		begun := w.put([]byte("ab"), 1)
		one := w.put(begun, 2)
		two := w.put(begun, 3)
		was := string(two)
		spoil(one)
		if string(two) != was || string(begun) != string(w.put([]byte("ab"), 1)) {
			t.Errorf("P3.1: %s: answers share memory: %x, %x", w.name, begun, two)
		}
	}
}

// spoil writes over a list, its spare room included.
func spoil(b []byte) {
	b = b[:cap(b)]
	for i := range b {
		b[i] = 99
	}
}
