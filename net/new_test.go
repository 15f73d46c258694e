package net_test

import (
	"math"
	"testing"

	"carousel/api"
	"carousel/net"
)

func TestNewOfNoRoom(t *testing.T) {
	for _, room := range []int{0, -1, -2, -65536, -1 << 32, -1<<32 + 5, math.MinInt, math.MinInt + 5,
		mostRoom + 1, mostRoom + 2, 2 * mostRoom, 1<<31 + 5, 1 << 32, 1<<32 + 5, 1<<62 + 5, math.MaxInt - 1, math.MaxInt} {
		if n, err := net.New(room); n != nil || err != api.EARG {
			t.Errorf("P20.1: New of a room of %d: %v, %d, want none, %d", room, n, err, api.EARG)
		}
	}
}

func TestNewIsEmpty(t *testing.T) {
	for _, room := range []int{1, 2, 3, 16, 255, 256, 257, 32768, mostRoom - 1, mostRoom} {
		n := made(t, room)
		if n.Len() != 0 {
			t.Errorf("P20.1: New of a room of %d: %d wait", room, n.Len())
		}
		if p, ok := n.At(0); ok || !isNone(p) {
			t.Errorf("P20.1: New of a room of %d: At(0): %s, %t", room, told(p), ok)
		}
		if ways := lossy(n); ways != "" {
			t.Errorf("P20.1: New of a room of %d: these ways are cut: %s", room, ways)
		}
	}
}

// Each room takes as many as it says, by Send and by Copy, and one more has no room.
func TestRoomIsFilled(t *testing.T) {
	for _, room := range []int{1, 2, 3, 5, 16, 255, 256, 257, 1024, mostRoom - 1, mostRoom} {
		sent, copied := made(t, room), with(t, room, packet(1, 2, "a"))
		for k := range room {
			if err := sent.Send(packet(1, 2, "a")); err != api.OK || sent.Len() != k+1 {
				t.Fatalf("P20.1: Send number %d into a room of %d: %d, %d wait", k, room, err, sent.Len())
			}
		}
		for k := range room - 1 {
			if !copied.Copy(k) || copied.Len() != k+2 {
				t.Fatalf("P20.1: Copy number %d in a room of %d: %d wait", k, room, copied.Len())
			}
		}
		for _, n := range []*net.Net{sent, copied} {
			sends(t, n, packet(1, 2, "b"), api.EFULL)
			says(t, "Copy in a full room", n.Copy(room-1), false)
			if n.Len() != room {
				t.Errorf("P20.1: a full room of %d: %d wait", room, n.Len())
			}
		}
	}
}

// A room that was full has room again for just as many as went.
func TestRoomComesBack(t *testing.T) {
	n := with(t, 4, letters("abcd")...)
	takes(t, n, 1, letters("b")[0])
	says(t, "Lose(2)", n.Lose(2), true)
	sends(t, n, letters("e")[0], api.OK)
	says(t, "Copy(0) with room for one", n.Copy(0), true)
	sends(t, n, letters("f")[0], api.EFULL)
	says(t, "Copy(0) in a full room", n.Copy(0), false)
	hasRow(t, "two gone and two come", n, "acea")
}

func TestNetsAreApart(t *testing.T) {
	a, b := with(t, 2, letters("ab")...), made(t, 2)
	a.Cut(1, 2, true)
	sends(t, b, packet(1, 2, "c"), api.OK)
	hasRow(t, "another network", b, "c")
	b.Lose(0)
	hasRow(t, "a network of which nothing was lost", a, "ab")
}
