package wide_test

import (
	"bytes"
	"math"
	"testing"

	"carousel/api"
	"carousel/wide"
)

func TestPut(t *testing.T) {
	for _, c := range []struct {
		a    api.Wide
		want []byte
	}{
		{api.Wide{}, make([]byte, 16)},
		{api.Wide{Hi: 1, Lo: 2}, []byte{0, 0, 0, 0, 0, 0, 0, 1, 0, 0, 0, 0, 0, 0, 0, 2}},
		{api.Wide{Hi: 0x0102030405060708, Lo: 0x090a0b0c0d0e0f10}, []byte{1, 2, 3, 4, 5, 6, 7, 8, 9, 10, 11, 12, 13, 14, 15, 16}},
		{wide.Of(-2), []byte{255, 255, 255, 255, 255, 255, 255, 255, 255, 255, 255, 255, 255, 255, 255, 254}},
		{least, []byte{128, 0, 0, 0, 0, 0, 0, 0, 0, 0, 0, 0, 0, 0, 0, 0}},
		{api.Wide{Lo: 1 << 63}, []byte{0, 0, 0, 0, 0, 0, 0, 0, 128, 0, 0, 0, 0, 0, 0, 0}},
	} {
		if got := wide.Put(c.a); !bytes.Equal(got, c.want) {
			t.Errorf("P2.1: Put(%v): %v, want %v", c.a, got, c.want)
		}
		if got, e := wide.Get(c.want); got != c.a || e != api.OK {
			t.Errorf("P2.1: Get(%v): %v, %d, want %v", c.want, got, e, c.a)
		}
	}
}

func TestPutAndBack(t *testing.T) {
	for _, a := range append(edges(), strewn(5000)...) {
		if got, e := wide.Get(wide.Put(a)); got != a || e != api.OK {
			t.Errorf("P2.1: Get of Put(%v): %v, %d", a, got, e)
		}
	}
}

func TestPutIsNewMemory(t *testing.T) {
	a, b := wide.Put(wide.Of(1)), wide.Put(wide.Of(1))
	a = a[:cap(a)]
	for i := range a {
		a[i] = 9
	}
	if !bytes.Equal(b, wide.Put(wide.Of(1))) {
		t.Errorf("P2.1: Put: two answers share memory: %v", b)
	}
}

func TestGetLeavesTheBytes(t *testing.T) {
	room := bytes.Repeat([]byte{7}, 32)
	if got, e := wide.Get(room[:16]); got != (api.Wide{Hi: 0x0707070707070707, Lo: 0x0707070707070707}) || e != api.OK {
		t.Errorf("P2.1: Get: %v, %d", got, e)
	}
	if !bytes.Equal(room, bytes.Repeat([]byte{7}, 32)) {
		t.Errorf("P2.1: Get changed what it was given: %v", room)
	}
}

func TestGetOfAnotherNumberOfBytes(t *testing.T) {
	for _, n := range []int{0, 1, 7, 8, 9, 14, 15, 17, 24, 31, 32, 160, math.MaxUint16} {
		if got, e := wide.Get(bytes.Repeat([]byte{1}, n)); got != (api.Wide{}) || e != api.EFORM {
			t.Errorf("P2.1: Get of %d bytes: %v, %d", n, got, e)
		}
	}
	if got, e := wide.Get(nil); got != (api.Wide{}) || e != api.EFORM {
		t.Errorf("P2.1: Get of nil: %v, %d", got, e)
	}
}
