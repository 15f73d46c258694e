package net_test

import (
	"math"
	"testing"

	"carousel/net"
)

// The example of the chapter: Send, Spoil, Spoil again: false.
func TestSpoilOnce(t *testing.T) {
	n := with(t, 1, packet(1, 2, "hello"))
	says(t, "Spoil", n.Spoil(0, 0, 1), true)
	says(t, "Spoil again", n.Spoil(0, 0, 1), false)
	takes(t, n, 0, packet(1, 2, "iello"))
}

// It stays spoilt, whichever byte is asked for, and by whatever: by what would undo it, too.
func TestSpoilIsNotUndone(t *testing.T) {
	for at := range 4 {
		for _, by := range []byte{1, 2, 7, 128, 255} {
			n := with(t, 3, packet(1, 2, "abcd"))
			says(t, "Spoil", n.Spoil(0, at, by), true)
			wanted := packet(1, 2, "abcd")
			wanted.B[at] ^= by
			for again := range 4 {
				for _, other := range []byte{by, 1, 255, by ^ 255} {
					says(t, "Spoil again", n.Spoil(0, again, other), false)
				}
			}
			holds(t, "one spoilt once", n, []net.Packet{wanted})
		}
	}
}

func TestSpoilByEach(t *testing.T) {
	for by := 1; by < 256; by++ {
		for was := range 256 {
			n := with(t, 1, net.Packet{From: 1, To: 2, B: []byte{9, byte(was), 9}})
			says(t, "Spoil", n.Spoil(0, 1, byte(by)), true)
			takes(t, n, 0, net.Packet{From: 1, To: 2, B: []byte{9, byte(was ^ by), 9}})
		}
	}
}

// By 0 nothing is spoilt: it may be later.
func TestSpoilByNothing(t *testing.T) {
	n := with(t, 2, packet(1, 2, "abc"))
	for at := -1; at < 4; at++ {
		says(t, "Spoil by 0", n.Spoil(0, at, 0), false)
	}
	hasRow(t, "one spoilt by 0", n, "abc")
	says(t, "Spoil by 255 behind Spoil by 0", n.Spoil(0, 2, 255), true)
	says(t, "Spoil by 0 of a spoilt one", n.Spoil(0, 2, 0), false)
	hasRow(t, "one spoilt", n, "ab\x9c")
}

// No such byte: it is not spoilt, and may be later.
func TestSpoilOfNoByte(t *testing.T) {
	for _, count := range []int{0, 1, 2, 3, 300, mostBytes} {
		p := net.Packet{From: 7, To: 8, B: counting(count)}
		n := with(t, 2, p)
		for _, at := range noPlaces(count) {
			says(t, "Spoil of no byte", n.Spoil(0, at, 1), false)
		}
		says(t, "Spoil of byte 0 of none", n.Spoil(0, 0, 1), count > 0)
		if count > 0 {
			p.B[0] ^= 1
		}
		holds(t, "one spoilt where it has bytes", n, []net.Packet{p})
	}
}

// The first, the last, and those between: the other bytes, From and To, and the other packets stay.
func TestSpoilOfEachByte(t *testing.T) {
	for _, count := range []int{1, 2, 3, 10, 256, 257} {
		for at := range count {
			row := []net.Packet{packet(0, 1, "left"), {From: 7, To: 8, B: counting(count)}, packet(2, 3, "right")}
			n := with(t, 3, row...)
			says(t, "Spoil", n.Spoil(1, at, 0xA5), true)
			row[1].B[at] ^= 0xA5
			holds(t, "the middle one spoilt", n, row)
			takes(t, n, 1, row[1])
		}
	}
	long := net.Packet{From: 7, To: 8, B: counting(mostBytes)}
	n := with(t, 1, long)
	says(t, "Spoil of the last byte", n.Spoil(0, mostBytes-1, 3), true)
	long.B[mostBytes-1] ^= 3
	takes(t, n, 0, long)
}

func TestSpoilOfNone(t *testing.T) {
	for count := range 4 {
		row := letters("abc"[:count])
		n := with(t, 8, row...)
		for _, k := range noPlaces(count) {
			says(t, "Spoil of none", n.Spoil(k, 0, 1), false)
		}
		holds(t, "none spoilt", n, row)
	}
}

// A packet is spoilt wherever it has come to in the row.
func TestSpoiltOnesMoveOn(t *testing.T) {
	n := with(t, 5, letters("abcd")...)
	n.Spoil(2, 0, 0x20)
	n.Lose(0)
	hasRow(t, "one ahead of the spoilt one lost", n, "bCd")
	says(t, "Spoil of the spoilt one", n.Spoil(1, 0, 1), false)
	says(t, "Spoil of the one behind it", n.Spoil(2, 0, 0x20), true)
	says(t, "Spoil of the one ahead of it", n.Spoil(0, 0, 0x20), true)
	hasRow(t, "all spoilt", n, "BCD")
	n.Lose(1)
	n.Send(letters("e")[0])
	says(t, "Spoil of one sent later", n.Spoil(2, 0, 0x20), true)
	hasRow(t, "all spoilt", n, "BDE")
}

func TestSpoilOfCopies(t *testing.T) {
	n := with(t, 8, packet(1, 2, "abc"))
	n.Spoil(0, 0, 2)
	n.Copy(0)
	n.Copy(1)
	for k := range 3 {
		for at := range 3 {
			says(t, "Spoil of a spoilt one, or of its copy", n.Spoil(k, at, 2), false)
		}
	}
	hasRow(t, "copies of a spoilt one", n, "cbccbccbc")
	n.Lose(0)
	says(t, "Spoil of a copy whose packet went", n.Spoil(0, 1, 2), false)
}

// A copy made ahead is another packet: either is spoilt by itself, once.
func TestSpoilBehindCopy(t *testing.T) {
	for _, first := range []int{0, 1} {
		n := with(t, 8, packet(1, 2, "abc"))
		n.Copy(0)
		says(t, "Spoil of one of two", n.Spoil(first, 0, 1), true)
		row := []net.Packet{packet(1, 2, "abc"), packet(1, 2, "abc")}
		row[first].B[0] = '`'
		holds(t, "one of two spoilt", n, row)
		says(t, "Spoil again", n.Spoil(first, 0, 1), false)
		says(t, "Spoil of the other of two", n.Spoil(1-first, 2, 2), true)
		row[1-first].B[2] = 'a'
		holds(t, "both of two spoilt", n, row)
		says(t, "Spoil again", n.Spoil(1-first, 2, 2), false)
	}
}

func TestSpoilRefusedChangesNothing(t *testing.T) {
	for _, room := range []int{4, 5, 20} {
		changesNothing(t, "Spoil of none, of no byte, by 0, or of a spoilt one", room, func(n *net.Net) {
			for _, k := range noPlaces(4) {
				says(t, "Spoil of none", n.Spoil(k, 0, 1), false)
			}
			for k := range 4 {
				for _, at := range []int{-1, 3, math.MinInt, math.MaxInt, 1<<32 + 1} {
					says(t, "Spoil of no byte", n.Spoil(k, at, 1), false)
				}
				says(t, "Spoil by 0", n.Spoil(k, 0, 0), false)
			}
			for _, k := range []int{1, 3} {
				says(t, "Spoil of a spoilt one", n.Spoil(k, 0, 1), false)
			}
		})
	}
}
