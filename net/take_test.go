package net_test

import (
	"math"
	"slices"
	"testing"

	"carousel/api"
	"carousel/net"
)

func TestLenOfEachNumber(t *testing.T) {
	n := made(t, 300)
	for count := range 300 {
		if n.Len() != count {
			t.Errorf("P20.1: Len of %d: %d", count, n.Len())
		}
		sends(t, n, packet(1, 2, "a"), api.OK)
	}
	for count := 300; count > 0; count-- {
		if n.Len() != count {
			t.Errorf("P20.1: Len of %d: %d", count, n.Len())
		}
		says(t, "Lose(0)", n.Lose(0), true)
	}
	if n.Len() != 0 {
		t.Errorf("P20.1: Len of none: %d", n.Len())
	}
}

// It is told as often as it is asked for, and stays.
func TestAt(t *testing.T) {
	row := letters("abcdefgh")
	n := with(t, 8, row...)
	for range 3 {
		for k := len(row) - 1; k >= 0; k-- {
			if p, ok := n.At(k); !ok || !alike(p, row[k]) {
				t.Errorf("P20.1: At(%d) of %d: %s, %t, want %s", k, len(row), told(p), ok, told(row[k]))
			}
		}
		holds(t, "what was told", n, row)
	}
}

// Each place of rows of each length: Take tells it, Lose does not, and behind either the others are in their order.
func TestEachGoes(t *testing.T) {
	const text = "abcdefgh"
	for count := 1; count <= len(text); count++ {
		row := letters(text[:count])
		for k := range count {
			rest := slices.Delete(slices.Clone(row), k, k+1)
			taken, lost := with(t, 8, row...), with(t, 8, row...)
			takes(t, taken, k, row[k])
			holds(t, "one taken", taken, rest)
			says(t, "Lose of one", lost.Lose(k), true)
			holds(t, "one lost", lost, rest)
			z := packet(5, 6, "z")
			sends(t, taken, z, api.OK)
			sends(t, lost, z, api.OK)
			holds(t, "one taken, one sent", taken, append(slices.Clone(rest), z))
			holds(t, "one lost, one sent", lost, append(slices.Clone(rest), z))
		}
	}
}

func TestNoneIsThere(t *testing.T) {
	for count := range 5 {
		row := letters("abcd"[:count])
		n := with(t, 8, row...)
		for _, k := range noPlaces(count) {
			if p, ok := n.At(k); ok || !isNone(p) {
				t.Errorf("P20.1: At(%d) of %d: %s, %t, want none", k, count, told(p), ok)
			}
			if p, ok := n.Take(k); ok || !isNone(p) {
				t.Errorf("P20.1: Take(%d) of %d: %s, %t, want none", k, count, told(p), ok)
			}
			if n.Lose(k) {
				t.Errorf("P20.1: Lose(%d) of %d: true", k, count)
			}
		}
		holds(t, "none taken, none lost", n, row)
	}
}

// What went does not come back: not at the place behind the last, nor at its own.
func TestWhatWentIsGone(t *testing.T) {
	n := with(t, 8, letters("abc")...)
	n.Take(2)
	n.Lose(0)
	for _, k := range []int{1, 2, 3, -1} {
		if p, ok := n.At(k); ok || !isNone(p) {
			t.Errorf("P20.1: At(%d) of one: %s, %t, want none", k, told(p), ok)
		}
	}
	hasRow(t, "the first lost, the last taken", n, "b")
	n.Take(0)
	if p, ok := n.Take(0); ok || !isNone(p) {
		t.Errorf("P20.1: Take(0) of none: %s, %t", told(p), ok)
	}
	sends(t, n, letters("d")[0], api.OK)
	hasRow(t, "all gone, one sent", n, "d")
}

func TestTakeOfNoneChangesNothing(t *testing.T) {
	for _, room := range []int{4, 5, 20} {
		changesNothing(t, "Take, Lose and At of none", room, func(n *net.Net) {
			for _, k := range []int{-1, 4, 5, math.MinInt, math.MaxInt} {
				n.Take(k)
				n.Lose(k)
				n.At(k)
			}
		})
		changesNothing(t, "At and Len", room, func(n *net.Net) {
			for k := range n.Len() {
				n.At(k)
			}
		})
	}
}

// Many come and go, the eldest first, the newest first, or from the middle, and are told as they were sent.
func TestManyComeAndGo(t *testing.T) {
	nth := func(i int) net.Packet {
		return net.Packet{From: i % workers, To: i / 5 % workers, B: []byte{byte(i), byte(i >> 8), byte(i >> 16)}[:1+i%3]}
	}
	n := made(t, mostRoom)
	for i := range mostRoom {
		sends(t, n, nth(i), api.OK)
	}
	sends(t, n, nth(0), api.EFULL)
	for i := range mostRoom {
		takes(t, n, 0, nth(i))
	}
	n = made(t, 10)
	for i := range 50000 {
		sends(t, n, nth(i), api.OK)
		if i >= 9 {
			takes(t, n, 0, nth(i-9))
		}
	}
	n = with(t, 5000)
	for i := range 5000 {
		sends(t, n, nth(i), api.OK)
	}
	for i := range 2500 {
		takes(t, n, n.Len()-1, nth(4999-i))
	}
	for i := range 1250 {
		takes(t, n, 1250, nth(1250+i))
	}
	if n.Len() != 1250 {
		t.Errorf("P20.1: %d wait, want 1250", n.Len())
	}
	for i := range 1250 {
		takes(t, n, 0, nth(i))
	}
}
