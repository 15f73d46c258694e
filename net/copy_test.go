package net_test

import (
	"testing"

	"carousel/api"
	"carousel/net"
)

func TestCopyOfEach(t *testing.T) {
	const text = "abcdefgh"
	for count := 1; count <= len(text); count++ {
		for k := range count {
			n := with(t, 9, letters(text[:count])...)
			says(t, "Copy of one", n.Copy(k), true)
			holds(t, "one copied", n, letters(text[:count]+text[k:k+1]))
		}
	}
}

func TestCopyOfNone(t *testing.T) {
	for count := range 5 {
		row := letters("abcd"[:count])
		n := with(t, 8, row...)
		for _, k := range noPlaces(count) {
			says(t, "Copy of none", n.Copy(k), false)
		}
		holds(t, "none copied", n, row)
	}
}

func TestCopyIntoRooms(t *testing.T) {
	for _, room := range []int{1, 2, 3, 4} {
		n := with(t, room, packet(1, 2, "a"))
		for wait := 1; wait < room; wait++ {
			says(t, "Copy with room", n.Copy(0), true)
		}
		for k := range room {
			says(t, "Copy in a full room", n.Copy(k), false)
		}
		hasRow(t, "a full room", n, "aaaa"[:room])
		n.Lose(0)
		says(t, "Copy of none, or of one, with room again", n.Copy(0), room > 1)
	}
}

// A copy is a packet as any: it is taken, lost, copied again, and the one it was made of stays what it was.
func TestCopyOfCopies(t *testing.T) {
	n := with(t, 8, letters("ab")...)
	n.Copy(0)
	n.Copy(2)
	n.Copy(1)
	hasRow(t, "copies of copies", n, "abaab")
	takes(t, n, 2, letters("a")[0])
	hasRow(t, "a copy taken", n, "abab")
	n.Lose(0)
	hasRow(t, "the one that was copied lost", n, "bab")
	takes(t, n, 1, letters("a")[0])
	n.Copy(0)
	hasRow(t, "one copied anew", n, "bbb")
}

func TestCopyOfNoBytes(t *testing.T) {
	n := with(t, 8, net.Packet{From: 3, To: 4})
	says(t, "Copy of one without bytes", n.Copy(0), true)
	holds(t, "one without bytes copied", n, []net.Packet{{From: 3, To: 4}, {From: 3, To: 4}})
}

// A way that is cut loses what is sent that way: a copy is not sent.
func TestCopyOnACutWay(t *testing.T) {
	n := with(t, 8, packet(1, 2, "a"))
	n.Cut(1, 2, true)
	says(t, "Copy of one whose way is cut", n.Copy(0), true)
	hasRow(t, "one copied whose way is cut", n, "aa")
}

func TestCopyOfASpoiltOne(t *testing.T) {
	n := with(t, 8, packet(1, 2, "abc"))
	n.Spoil(0, 1, 1)
	says(t, "Copy of a spoilt one", n.Copy(0), true)
	holds(t, "a spoilt one copied", n, []net.Packet{packet(1, 2, "acc"), packet(1, 2, "acc")})
	takes(t, n, 0, packet(1, 2, "acc"))
	takes(t, n, 0, packet(1, 2, "acc"))
}

func TestCopyRefusedChangesNothing(t *testing.T) {
	changesNothing(t, "Copy in a full room", 4, func(n *net.Net) {
		for k := range 4 {
			says(t, "Copy in a full room", n.Copy(k), false)
		}
	})
	for _, room := range []int{4, 5, 20} {
		changesNothing(t, "Copy of none", room, func(n *net.Net) {
			for _, k := range noPlaces(4) {
				says(t, "Copy of none", n.Copy(k), false)
			}
		})
	}
}

// A long packet that fills a great room by its copies: each is told whole, and each may be spoilt by itself.
func TestManyCopies(t *testing.T) {
	p := net.Packet{From: 1, To: 2, B: counting(mostBytes)}
	n := with(t, 500, p)
	for range 499 {
		says(t, "Copy with room", n.Copy(0), true)
	}
	for k := 0; k < 500; k += 2 {
		says(t, "Spoil of a copy", n.Spoil(k, k, byte(k)|1), true)
	}
	for k := range 500 {
		wanted := net.Packet{From: 1, To: 2, B: counting(mostBytes)}
		if k%2 == 0 {
			wanted.B[k] ^= byte(k) | 1
		}
		takes(t, n, 0, wanted)
	}
	sends(t, n, p, api.OK)
}
