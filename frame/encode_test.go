package frame_test

import (
	"bytes"
	"encoding/binary"
	"strings"
	"testing"

	"carousel/api"
	"carousel/crc"
	"carousel/frame"
)

// byHand are frames with their bytes, worked out one by one.
func byHand() []struct {
	f frame.Frame
	b string
} {
	long, ones := strings.Repeat("\x00", api.MaxBody), strings.Repeat("\xff", api.MaxBody)
	return []struct {
		f frame.Frame
		b string
	}{
		{frame.Frame{Kind: 1},
			"\x52\x01\x01\x00\x00\x00\x00\x00\x00\x00\x00\x00\x00\x00\x00\xb1\x55\x6e\xb7"},
		{frame.Frame{Kind: 1, View: 1},
			"\x52\x01\x01\x00\x00\x00\x00\x00\x01\x00\x00\x00\x00\x00\x00\x17\x22\x65\x03"},
		{frame.Frame{Kind: 1, Seq: 1},
			"\x52\x01\x01\x00\x00\x00\x00\x00\x00\x00\x00\x00\x01\x00\x00\xb0\x97\x04\x80"},
		{frame.Frame{Kind: 20, From: 15, To: 15, View: most32, Seq: most32},
			"\x52\x01\x14\x0f\x0f\xff\xff\xff\xff\xff\xff\xff\xff\x00\x00\xab\x59\xd9\x1c"},
		{frame.Frame{Kind: 3, From: 1, To: 15, View: 0x01020304, Seq: 0x05060708, Body: []byte("hello")},
			"\x52\x01\x03\x01\x0f\x01\x02\x03\x04\x05\x06\x07\x08\x00\x05hello\xa9\x66\x35\xd4"},
		{frame.Frame{Kind: 7, From: 14, To: 2, View: 0xFEDCBA98, Seq: 0x76543210, Body: []byte{0}},
			"\x52\x01\x07\x0e\x02\xfe\xdc\xba\x98\x76\x54\x32\x10\x00\x01\x00\x5c\x5a\xa1\x77"},
		{frame.Frame{Kind: 2, From: 0, To: 1, View: 1, Seq: 1, Body: []byte{255}},
			"\x52\x01\x02\x00\x01\x00\x00\x00\x01\x00\x00\x00\x01\x00\x01\xff\x20\x7d\x4c\x4f"},
		{frame.Frame{Kind: 19, From: 9, To: 9, View: 256, Seq: 65536, Body: []byte("R\x01")},
			"\x52\x01\x13\x09\x09\x00\x00\x01\x00\x00\x01\x00\x00\x00\x02R\x01\x30\xcb\xb7\x58"},
		{frame.Frame{Kind: 11, From: 5, To: 6, View: 1 << 31, Seq: 1 << 24, Body: []byte{1, 2, 3}},
			"\x52\x01\x0b\x05\x06\x80\x00\x00\x00\x01\x00\x00\x00\x00\x03\x01\x02\x03\xef\x80\x5a\xc0"},
		{frame.Frame{Kind: 4, From: 3, To: 2, View: 1, Body: bytes.Repeat([]byte("a"), 255)},
			"\x52\x01\x04\x03\x02\x00\x00\x00\x01\x00\x00\x00\x00\x00\xff" + strings.Repeat("a", 255) + "\x08\x58\xa3\xce"},
		{frame.Frame{Kind: 4, From: 3, To: 2, View: 1, Body: bytes.Repeat([]byte("a"), 256)},
			"\x52\x01\x04\x03\x02\x00\x00\x00\x01\x00\x00\x00\x00\x01\x00" + strings.Repeat("a", 256) + "\x6c\x79\xbd\x0a"},
		{frame.Frame{Kind: 20, From: 15, View: most32, Body: []byte(long)},
			"\x52\x01\x14\x0f\x00\xff\xff\xff\xff\x00\x00\x00\x00\x40\x00" + long + "\x68\xcb\x39\xd3"},
		{frame.Frame{Kind: 1, To: 15, Seq: most32, Body: []byte(ones)},
			"\x52\x01\x01\x00\x0f\x00\x00\x00\x00\xff\xff\xff\xff\x40\x00" + ones + "\x4f\x83\x04\xaa"},
		{frame.Frame{Kind: 5, From: 4, To: 5, View: 2, Seq: 3, Body: counting(api.MaxBody)},
			"\x52\x01\x05\x04\x05\x00\x00\x00\x02\x00\x00\x00\x03\x40\x00" + string(counting(api.MaxBody)) + "\xa3\x1b\x65\x55"},
	}
}

func TestEncodeByHand(t *testing.T) {
	for _, c := range byHand() {
		encodes(t, c.f, []byte(c.b))
	}
}

func TestEncodeOfTheExample(t *testing.T) {
	if b := frame.Encode(frame.Frame{Kind: 1}); len(b) != 19 {
		t.Errorf("P18.1: Encode({Kind 1}): %d bytes, want 19", len(b))
	}
}

func TestEncodeOfMany(t *testing.T) {
	for _, f := range goodOnes() {
		encodes(t, f, summed(laid(f)))
	}
}

// The sum is crc's own, of all that is ahead of it.
func TestEncodeSums(t *testing.T) {
	for _, f := range goodOnes() {
		b := frame.Encode(f)
		end := len(b) - 4
		if end != 15+len(f.Body) {
			t.Fatalf("P18.1: Encode of %s: %d bytes", told(f), len(b))
		}
		if sum := binary.BigEndian.Uint32(b[end:]); sum != crc.Of(b[:end]) {
			t.Errorf("P18.1: Encode of %s: its sum is %d, want %d", told(f), sum, crc.Of(b[:end]))
		}
	}
}

// Each field, changed alone, changes its own bytes alone, and the sum.
func TestEncodeFieldByField(t *testing.T) {
	before := frame.Encode(plain())
	for _, c := range []struct {
		what   string
		at     int
		bytes  string
		change func(f *frame.Frame)
	}{
		{"Kind", 2, "\x14", func(f *frame.Frame) { f.Kind = 20 }},
		{"From", 3, "\x0e", func(f *frame.Frame) { f.From = 14 }},
		{"To", 4, "\x00", func(f *frame.Frame) { f.To = 0 }},
		{"View", 5, "\xf1\xf2\xf3\xf4", func(f *frame.Frame) { f.View = 0xF1F2F3F4 }},
		{"Seq", 9, "\xe1\xe2\xe3\xe4", func(f *frame.Frame) { f.Seq = 0xE1E2E3E4 }},
		{"Body", 15, "HELLO", func(f *frame.Frame) { f.Body = []byte("HELLO") }},
	} {
		wanted := bytes.Clone(before[:20])
		copy(wanted[c.at:], c.bytes)
		f := with(plain(), c.change)
		b := frame.Encode(f)
		if string(b) != string(summed(wanted)) || string(b[20:]) == string(before[20:]) {
			t.Errorf("P18.1: Encode of another %s: %x", c.what, b)
		}
	}
}

func TestEncodeOfEachKindAndWorker(t *testing.T) {
	for kind := 1; kind <= 20; kind++ {
		for from := range api.MaxWorkers {
			for to := range api.MaxWorkers {
				f := frame.Frame{Kind: kind, From: from, To: to, View: 7, Seq: 9}
				encodes(t, f, summed([]byte{82, 1, byte(kind), byte(from), byte(to), 0, 0, 0, 7, 0, 0, 0, 9, 0, 0}))
			}
		}
	}
}

func TestEncodeOfEachLength(t *testing.T) {
	body := counting(api.MaxBody)
	for n := 0; n <= api.MaxBody; n += 1 + n/64 {
		f := frame.Frame{Kind: 6, From: 1, To: 2, Body: body[:n]}
		head := []byte{82, 1, 6, 1, 2, 0, 0, 0, 0, 0, 0, 0, 0, byte(n / 256), byte(n % 256)}
		encodes(t, f, summed(append(head, body[:n]...)))
	}
}

func TestEncodeOfWhatIsNotGood(t *testing.T) {
	for _, f := range wrongOnes() {
		encodes(t, f, nil)
	}
}

// What was refused leaves nothing behind.
func TestEncodeBehindRefusals(t *testing.T) {
	wanted := summed(laid(plain()))
	for _, f := range wrongOnes() {
		encodes(t, f, nil)
		encodes(t, plain(), wanted)
	}
}

// No Body and an empty one are one.
func TestEncodeOfNoBody(t *testing.T) {
	wanted := frame.Encode(frame.Frame{Kind: 1})
	encodes(t, frame.Frame{Kind: 1, Body: []byte{}}, wanted)
	encodes(t, frame.Frame{Kind: 1, Body: counting(9)[:0]}, wanted)
	encodes(t, frame.Frame{Kind: 1, Body: counting(9)[9:]}, wanted)
}
