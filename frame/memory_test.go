package frame_test

import (
	"bytes"
	"slices"
	"testing"

	"carousel/api"
	"carousel/frame"
)

// inRoom lays bytes in a wider list, so that there is room ahead of them and spare room behind them.
func inRoom(b []byte) (room, part []byte) {
	room = slices.Concat([]byte{90, 91}, b, bytes.Repeat([]byte{92}, 30))
	return room, room[2 : 2+len(b)]
}

// spoil writes over a list, its spare room included.
func spoil(b []byte) {
	b = b[:cap(b)]
	for i := range b {
		b[i] ^= 0xA5
	}
}

func TestBodyStays(t *testing.T) {
	for _, f := range slices.Concat(goodOnes(), wrongOnes()) {
		room, body := inRoom(f.Body)
		was := bytes.Clone(room)
		f.Body = body
		frame.Good(f)
		told := frame.Encode(f)
		if !bytes.Equal(room, was) {
			t.Fatalf("P18.1: the Body of %d bytes, or the room about it, is changed", len(body))
		}
		spoil(told)
		if !bytes.Equal(room, was) {
			t.Fatalf("P18.1: Encode tells the Body's own memory, of %d bytes", len(body))
		}
	}
}

func TestEncodeIsNewMemory(t *testing.T) {
	for _, f := range goodOnes() {
		room, body := inRoom(f.Body)
		f.Body = body
		wanted := summed(laid(f))
		first, second := frame.Encode(f), frame.Encode(f)
		spoil(first)
		if !bytes.Equal(second, wanted) {
			t.Errorf("P18.1: Encode of %d bytes: two answers share memory", len(body))
		}
		spoil(room)
		if !bytes.Equal(second, wanted) {
			t.Errorf("P18.1: Encode of %d bytes: it goes with the Body", len(body))
		}
	}
}

// Spare room behind a Body is none of it.
func TestEncodeLeavesSpareRoom(t *testing.T) {
	room := counting(api.MaxBody + 100)
	for _, n := range []int{0, 1, 5, api.MaxBody} {
		f := with(plain(), func(f *frame.Frame) { f.Body = room[:n] })
		encodes(t, f, summed(laid(with(f, func(f *frame.Frame) { f.Body = bytes.Clone(room[:n]) }))))
	}
}

func TestBytesStay(t *testing.T) {
	for _, f := range goodOnes() {
		b := frame.Encode(f)
		for _, handed := range [][]byte{b, b[:len(b)-1], b[1:], b[:len(b)/2], summed(b), laid(with(f, func(f *frame.Frame) { f.Kind = 0 }))} {
			room, part := inRoom(handed)
			was := bytes.Clone(room)
			told, _ := frame.Decode(part)
			if !bytes.Equal(room, was) {
				t.Fatalf("P18.1: Decode of %d bytes: they, or the room about them, are changed", len(part))
			}
			spoil(told.Body)
			if !bytes.Equal(room, was) {
				t.Fatalf("P18.1: Decode of %d bytes: the Body is their own memory", len(part))
			}
		}
	}
}

func TestDecodeIsNewMemory(t *testing.T) {
	for _, f := range goodOnes() {
		room, part := inRoom(frame.Encode(f))
		first, _ := frame.Decode(part)
		second, _ := frame.Decode(part)
		spoil(first.Body)
		if !alike(second, f) {
			t.Errorf("P18.1: Decode of %s: two answers share memory", told(f))
		}
		decodes(t, part, f)
		spoil(room)
		if !alike(second, f) {
			t.Errorf("P18.1: Decode of %s: it goes with the bytes", told(f))
		}
	}
}

// Spare room behind the bytes is none of them: neither does it finish a frame, nor spoil one.
func TestDecodeLeavesSpareRoom(t *testing.T) {
	b := frame.Encode(plain())
	for n := range b {
		refuses(t, "a front with the rest in the spare room", b[:n])
	}
	_, part := inRoom(b)
	decodes(t, part, plain())
}
