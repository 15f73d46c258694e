package net_test

import (
	"testing"

	"carousel/api"
	"carousel/net"
)

func TestSendOnEachWay(t *testing.T) {
	n := made(t, workers*workers)
	var wanted []net.Packet
	for from := range workers {
		for to := range workers {
			p := packet(from, to, string(rune('A'+from))+string(rune('a'+to)))
			sends(t, n, p, api.OK)
			wanted = append(wanted, p)
		}
	}
	holds(t, "a packet on each way", n, wanted)
}

func TestSendOfNoWorkers(t *testing.T) {
	for _, w := range noWorkers() {
		for _, other := range []int{0, 1, workers - 1, -1, workers} {
			n := made(t, 3)
			sends(t, n, packet(w, other, "a"), api.EARG)
			sends(t, n, packet(other, w, "a"), api.EARG)
			sends(t, n, packet(w, w, "a"), api.EARG)
			if n.Len() != 0 {
				t.Errorf("P20.1: %d wait behind Send from and to %d", n.Len(), w)
			}
		}
	}
	for _, from := range []int{0, workers - 1} {
		for _, to := range []int{0, workers - 1} {
			sends(t, made(t, 1), packet(from, to, "a"), api.OK)
		}
	}
}

func TestSendOfSoManyBytes(t *testing.T) {
	for _, count := range []int{0, 1, 2, 255, 256, 257, api.MaxBody, api.MaxBody + 19, api.MaxBody + 20, mostBytes - 1, mostBytes} {
		p := net.Packet{From: 4, To: 9, B: counting(count)}
		n := with(t, 2, p)
		holds(t, "a packet", n, []net.Packet{p})
		takes(t, n, 0, p)
	}
	for _, count := range []int{mostBytes + 1, mostBytes + 2, 2*mostBytes - 1, 2 * mostBytes, 2*mostBytes + 1, 1 << 20} {
		n := made(t, 2)
		sends(t, n, net.Packet{From: 4, To: 9, B: make([]byte, count)}, api.EARG)
		hasRow(t, "a packet of too many bytes", n, "")
	}
}

// No list and an empty one are one: a packet of either waits.
func TestSendOfNoBytes(t *testing.T) {
	none := net.Packet{From: 2, To: 3}
	n := with(t, 3, none, packet(4, 5, ""), packet(2, 3, "a"))
	holds(t, "packets without bytes", n, []net.Packet{none, {From: 4, To: 5}, packet(2, 3, "a")})
	takes(t, n, 0, none)
	takes(t, n, 0, net.Packet{From: 4, To: 5, B: []byte{}})
	takes(t, n, 0, packet(2, 3, "a"))
}

func TestSendIntoRooms(t *testing.T) {
	for _, room := range []int{1, 2, 3, 4, 7} {
		for wait := range room + 1 {
			row := letters("abcdefg"[:wait])
			n := with(t, room, row...)
			next := packet(5, 6, "z")
			if wait == room {
				sends(t, n, next, api.EFULL)
			} else {
				sends(t, n, next, api.OK)
				row = append(row, next)
			}
			holds(t, "what was sent into a room", n, row)
		}
	}
}

// The faults are weighed in this order: what can't be sent, what is lost, what has no room.
func TestSendOfSeveralFaults(t *testing.T) {
	tooMany := make([]byte, mostBytes+1)
	n := with(t, 1, packet(0, 0, "a"))
	n.Cut(1, 2, true)
	sends(t, n, net.Packet{From: 1, To: 2, B: tooMany}, api.EARG)
	sends(t, n, net.Packet{From: 1, To: 3, B: tooMany}, api.EARG)
	sends(t, n, net.Packet{From: -1, To: 2, B: tooMany}, api.EARG)
	sends(t, n, packet(-1, 2, "b"), api.EARG)
	sends(t, n, packet(1, workers, "b"), api.EARG)
	sends(t, n, packet(1, 2, "b"), api.OK)
	sends(t, n, packet(1, 3, "b"), api.EFULL)
	hasRow(t, "refused and lost ones", n, "a")
	n.Lose(0)
	sends(t, n, net.Packet{From: 1, To: 2, B: tooMany}, api.EARG)
	sends(t, n, packet(1, 2, "b"), api.OK)
	hasRow(t, "refused and lost ones", n, "")
}

func TestSendRefusedChangesNothing(t *testing.T) {
	wrong := []net.Packet{{From: 1, To: 1, B: make([]byte, mostBytes+1)}, {From: 2, To: 5, B: make([]byte, mostBytes+1)}}
	for _, w := range noWorkers() {
		wrong = append(wrong, packet(w, 1, "a"), packet(1, w, "a"), packet(w, w, "a"))
	}
	for _, room := range []int{4, 5, 20} {
		changesNothing(t, "Send of what can't be", room, func(n *net.Net) {
			for _, p := range wrong {
				sends(t, n, p, api.EARG)
			}
		})
		changesNothing(t, "Send of what is lost", room, func(n *net.Net) {
			for range 30 {
				sends(t, n, packet(2, 5, "a"), api.OK)
			}
		})
	}
	changesNothing(t, "Send into a full room", 4, func(n *net.Net) {
		for range 30 {
			sends(t, n, packet(5, 2, "a"), api.EFULL)
		}
	})
}
