package pack_test

import (
	"bytes"
	"math"
	"testing"

	"carousel/pack"
)

// calls are all that read: the bytes that each takes, and whether it answered 0 or nothing.
var calls = []struct {
	name    string
	n       int
	nothing func(r *pack.Reader) bool
}{
	{"U8", 1, func(r *pack.Reader) bool { return r.U8() == 0 }},
	{"U16", 2, func(r *pack.Reader) bool { return r.U16() == 0 }},
	{"U32", 4, func(r *pack.Reader) bool { return r.U32() == 0 }},
	{"U64", 8, func(r *pack.Reader) bool { return r.U64() == 0 }},
	{"Bytes(1)", 1, func(r *pack.Reader) bool { return len(r.Bytes(1)) == 0 }},
	{"Bytes(5)", 5, func(r *pack.Reader) bool { return len(r.Bytes(5)) == 0 }},
	{"Bytes(100)", 100, func(r *pack.Reader) bool { return len(r.Bytes(100)) == 0 }},
}

// counting answers the bytes from 1 to n.
func counting(n int) []byte {
	b := make([]byte, n)
	for i := range b {
		b[i] = byte(i + 1)
	}
	return b
}

// checkSpoilt asks each call, forth and back: none may have anything, and none may mend it.
func checkSpoilt(t *testing.T, why string, r *pack.Reader) {
	t.Helper()
	if r.End() {
		t.Errorf("P3.1: %s: End of a spoilt one", why)
	}
	for _, n := range []int{0, 1, 2, -1, math.MinInt, math.MaxInt} {
		if got := r.Bytes(n); len(got) != 0 || r.End() {
			t.Errorf("P3.1: %s: then Bytes(%d): %v, End %v", why, n, got, r.End())
		}
	}
	for i := range 2 * len(calls) {
		c := calls[min(i, 2*len(calls)-1-i)]
		if !c.nothing(r) || r.End() {
			t.Errorf("P3.1: %s: then %s has something, or End %v", why, c.name, r.End())
		}
	}
}

func TestReadExample(t *testing.T) {
	r := pack.Read([]byte{1, 2})
	if r.End() {
		t.Errorf("P3.1: Read(1, 2): End ahead of the end")
	}
	if got := r.U16(); got != 258 || !r.End() {
		t.Errorf("P3.1: Read(1, 2): U16 %d, End %v", got, r.End())
	}
}

func TestReadsFromTheFirstByteOn(t *testing.T) {
	r := pack.Read(counting(20))
	if got := r.U8(); got != 1 || r.End() {
		t.Errorf("P3.1: U8: %d, End %v", got, r.End())
	}
	if got := r.U16(); got != 0x0203 || r.End() {
		t.Errorf("P3.1: U16: %x, End %v", got, r.End())
	}
	if got := r.U32(); got != 0x04050607 || r.End() {
		t.Errorf("P3.1: U32: %x, End %v", got, r.End())
	}
	if got := r.Bytes(3); string(got) != "\x08\x09\x0a" || r.End() {
		t.Errorf("P3.1: Bytes(3): %x, End %v", got, r.End())
	}
	if got := r.U64(); got != 0x0b0c0d0e0f101112 || r.End() {
		t.Errorf("P3.1: U64: %x, End %v", got, r.End())
	}
	if got := r.U16(); got != 0x1314 || !r.End() {
		t.Errorf("P3.1: U16: %x, End %v", got, r.End())
	}
}

func TestReadsNumbersAboveZero(t *testing.T) {
	all := bytes.Repeat([]byte{255}, 15)
	r := pack.Read(all)
	if a, b, c, d := r.U8(), r.U16(), r.U32(), r.U64(); a != 255 || b != 65535 || c != math.MaxUint32 || d != math.MaxUint64 || !r.End() {
		t.Errorf("P3.1: all bits: %d %d %d %d, End %v", a, b, c, d, r.End())
	}
	r = pack.Read([]byte("\x80\x80\x00\x80\x00\x00\x00\x80\x00\x00\x00\x00\x00\x00\x00"))
	if a, b, c, d := r.U8(), r.U16(), r.U32(), r.U64(); a != 128 || b != 1<<15 || c != 1<<31 || d != 1<<63 || !r.End() {
		t.Errorf("P3.1: the highest bit: %d %d %d %d, End %v", a, b, c, d, r.End())
	}
}

func TestReadsWhatWasWritten(t *testing.T) {
	var b []byte
	for _, v := range numbers() {
		b = pack.U64(pack.U32(pack.U16(b, int(v)), uint32(v)), v)
	}
	r := pack.Read(b)
	for _, v := range numbers() {
		if x, y, z := r.U16(), r.U32(), r.U64(); x != int(v&0xffff) || y != uint32(v) || z != v {
			t.Errorf("P3.1: of %x was read: %x %x %x", v, x, y, z)
		}
	}
	if !r.End() {
		t.Errorf("P3.1: all that was written was read: no End")
	}
}

func TestZeroBytesAreNoFault(t *testing.T) {
	r := pack.Read(make([]byte, 16))
	if r.U8() != 0 || r.U16() != 0 || r.U32() != 0 || r.U64() != 0 || r.End() {
		t.Errorf("P3.1: of noughts")
	}
	if got := r.Bytes(1); string(got) != "\x00" || !r.End() {
		t.Errorf("P3.1: a nought: %v, End %v", got, r.End())
	}
}

func TestReadOfNothing(t *testing.T) {
	for _, b := range [][]byte{nil, {}} {
		r := pack.Read(b)
		if !r.End() || !r.End() {
			t.Errorf("P3.1: Read of nothing is at its end")
		}
		if got := r.Bytes(0); len(got) != 0 || !r.End() {
			t.Errorf("P3.1: Read of nothing: Bytes(0): %v, End %v", got, r.End())
		}
		for _, c := range calls {
			r := pack.Read(b)
			if !c.nothing(r) {
				t.Errorf("P3.1: Read of nothing: %s has something", c.name)
			}
			checkSpoilt(t, c.name+" of nothing", r)
		}
	}
}

func TestWhatIsNotAllThere(t *testing.T) {
	for _, c := range calls {
		for there := range c.n {
			for ahead := range 3 {
				r := pack.Read(counting(ahead + there))
				if got := r.Bytes(ahead); len(got) != ahead || r.End() != (there == 0) {
					t.Errorf("P3.1: Bytes(%d): %v, End %v", ahead, got, r.End())
				}
				if !c.nothing(r) {
					t.Errorf("P3.1: %s, where %d bytes are: has something", c.name, there)
				}
				checkSpoilt(t, c.name, r)
			}
		}
	}
}

func TestWhatIsJustThere(t *testing.T) {
	for _, c := range calls {
		r := pack.Read(counting(c.n))
		if c.nothing(r) || !r.End() {
			t.Errorf("P3.1: %s, where just its bytes are: nothing, or End %v", c.name, r.End())
		}
		r = pack.Read(counting(c.n + 1))
		if c.nothing(r) || r.End() {
			t.Errorf("P3.1: %s, one byte ahead of the end: nothing, or End %v", c.name, r.End())
		}
		if got := r.U8(); got != int(byte(c.n+1)) || !r.End() {
			t.Errorf("P3.1: behind %s: U8 %d, End %v", c.name, got, r.End())
		}
	}
}

func TestBytesBelowZeroOrPastTheEnd(t *testing.T) {
	for _, n := range []int{-1, -2, -3, -4, math.MinInt, math.MinInt + 1, math.MinInt32, 4, 5, math.MaxInt, math.MaxInt - 1, math.MaxInt - 3, math.MaxInt32} {
		for ahead := range 4 {
			r := pack.Read([]byte{1, 2, 3})
			r.Bytes(ahead)
			if got := r.Bytes(n); len(got) != 0 {
				t.Errorf("P3.1: Bytes(%d) behind %d: %v", n, ahead, got)
			}
			checkSpoilt(t, "Bytes", r)
		}
	}
}

func TestBytesOfZero(t *testing.T) {
	r := pack.Read([]byte{1, 2})
	for want := 1; want <= 2; want++ {
		if got := r.Bytes(0); len(got) != 0 || r.End() {
			t.Errorf("P3.1: Bytes(0) ahead of %d: %v, End %v", want, got, r.End())
		}
		if got := r.U8(); got != want {
			t.Errorf("P3.1: behind Bytes(0): U8 %d, want %d", got, want)
		}
	}
	if got := r.Bytes(0); len(got) != 0 || !r.End() {
		t.Errorf("P3.1: Bytes(0) at the end: %v, End %v", got, r.End())
	}
}

func TestEndReadsNothing(t *testing.T) {
	r := pack.Read([]byte{1, 2, 3, 4})
	for range 5 {
		if r.End() {
			t.Errorf("P3.1: End ahead of the end")
		}
	}
	if got := r.U32(); got != 0x01020304 {
		t.Errorf("P3.1: behind End: %x", got)
	}
	for range 5 {
		if !r.End() {
			t.Errorf("P3.1: no End at the end")
		}
	}
}

func TestReadKeepsNothingOfWhatItIsGiven(t *testing.T) {
	room := counting(12)
	r := pack.Read(room[:8])
	spoil(room)
	if got := r.U64(); got != 0x0102030405060708 || !r.End() {
		t.Errorf("P3.1: Read kept what it was given: %x, End %v", got, r.End())
	}
}

func TestReadingLeavesWhatItIsGiven(t *testing.T) {
	room := counting(12)
	r := pack.Read(room[:8])
	r.U16()
	spoil(r.Bytes(5))
	r.U64()
	if !bytes.Equal(room, counting(12)) {
		t.Errorf("P3.1: reading changed what was given: %v", room)
	}
}

func TestBytesAreNewMemory(t *testing.T) {
	r := pack.Read(counting(6))
	one := r.Bytes(2)
	two := r.Bytes(2)
	spoil(one)
	if string(two) != "\x03\x04" {
		t.Errorf("P3.1: two answers of Bytes share memory: %v", two)
	}
	spoil(two)
	if got := r.U16(); got != 0x0506 {
		t.Errorf("P3.1: Bytes answered the Reader's own memory: %x", got)
	}
}

func TestReadersAreApart(t *testing.T) {
	b := counting(3)
	one, two := pack.Read(b), pack.Read(b)
	if one.U64() != 0 || one.End() {
		t.Errorf("P3.1: what is not all there")
	}
	if got := two.Bytes(3); string(got) != "\x01\x02\x03" || !two.End() {
		t.Errorf("P3.1: a Reader hangs on another: %v, End %v", got, two.End())
	}
}
