package net_test

import (
	"bytes"
	"slices"
	"testing"

	"carousel/api"
	"carousel/net"
)

// inRoom lays bytes in a wider list, so that there is room ahead of them and spare room behind them.
func inRoom(b []byte) (room, part []byte) {
	room = slices.Concat([]byte{92, 92}, b, bytes.Repeat([]byte{92}, 30))
	return room, room[2 : 2+len(b)]
}

// spoil writes over bytes, their spare room included.
func spoil(b []byte) {
	b = b[:cap(b)]
	for i := range b {
		b[i] = 0xEE
	}
}

// lengths are how many bytes a packet may have; about some of them there is spare room behind a list.
func lengths() []int { return []int{0, 1, 2, 5, 8, 9, 31, 33, 300, 5000, mostBytes - 1, mostBytes} }

func TestBytesStay(t *testing.T) {
	for _, count := range lengths() {
		room, part := inRoom(counting(count))
		was := bytes.Clone(room)
		n := with(t, 4, net.Packet{From: 1, To: 2, B: part})
		n.Copy(0)
		n.Spoil(0, 0, 255)
		n.Spoil(1, count-1, 255)
		for k := range 2 {
			p, _ := n.At(k)
			spoil(p.B)
		}
		n.Cut(1, 2, true)
		sends(t, n, net.Packet{From: 1, To: 2, B: part}, api.OK)
		sends(t, n, net.Packet{From: 1, To: workers, B: part}, api.EARG)
		for range 2 {
			p, _ := n.Take(0)
			spoil(p.B)
		}
		if !bytes.Equal(room, was) {
			t.Errorf("P20.1: %d bytes that were sent, or the room about them, are changed", count)
		}
	}
}

// What was sent may be changed, and be sent anew: what waits stays as it was sent.
func TestBytesMayChange(t *testing.T) {
	for _, count := range lengths() {
		room, part := inRoom(counting(count))
		n := with(t, 4, net.Packet{From: 1, To: 2, B: part})
		n.Copy(0)
		says(t, "Spoil", n.Spoil(1, 0, 255), count > 0)
		spoil(room)
		sends(t, n, net.Packet{From: 3, To: 4, B: part}, api.OK)
		row := []net.Packet{{From: 1, To: 2, B: counting(count)}, {From: 1, To: 2, B: counting(count)},
			{From: 3, To: 4, B: bytes.Repeat([]byte{0xEE}, count)}}
		if count > 0 {
			row[1].B[0] ^= 255
		}
		for i := range room {
			room[i] = 0x11
		}
		holds(t, "what was sent, and changed afterwards", n, row)
	}
}

// What At and Take tell may be changed, and so may what is appended to it: nothing is told otherwise.
func TestAnswersAreNewMemory(t *testing.T) {
	for _, count := range lengths() {
		p := net.Packet{From: 1, To: 2, B: counting(count)}
		n := with(t, 8, p, p)
		n.Copy(0)
		says(t, "Spoil", n.Spoil(1, count-1, 255), count > 0)
		n.Copy(1)
		row := []net.Packet{p, {From: 1, To: 2, B: counting(count)}, p, {From: 1, To: 2, B: counting(count)}}
		if count > 0 {
			row[1].B[count-1] ^= 255
			row[3].B[count-1] ^= 255
		}
		var firsts, seconds []net.Packet
		for k := range row {
			first, _ := n.At(k)
			second, _ := n.At(k)
			firsts, seconds = append(firsts, first), append(seconds, second)
		}
		for k := range row {
			spoil(firsts[k].B)
			holds(t, "what was told, and changed afterwards", n, row)
		}
		for k := range row {
			if !alike(seconds[k], row[k]) {
				t.Errorf("P20.1: At(%d) of %d bytes: two answers share memory", k, count)
			}
		}
		for k := range row {
			taken, _ := n.Take(0)
			spoil(taken.B)
			holds(t, "those left behind one taken, and changed afterwards", n, row[k+1:])
		}
	}
}

// What was taken stays as it was told, whatever becomes of its copies, and of what is sent later.
func TestTakenOnesStay(t *testing.T) {
	for _, count := range lengths() {
		p := net.Packet{From: 1, To: 2, B: counting(count)}
		n := with(t, 3, p)
		n.Copy(0)
		n.Copy(0)
		told, _ := n.At(1)
		taken, _ := n.Take(0)
		n.Spoil(0, 0, 255)
		for range 3 {
			n.Lose(0)
			sends(t, n, net.Packet{From: 3, To: 4, B: bytes.Repeat([]byte{7}, count)}, api.OK)
		}
		if !alike(told, p) || !alike(taken, p) {
			t.Errorf("P20.1: At or Take of %d bytes: what it told changes later", count)
		}
	}
}
