package net_test

import (
	"fmt"
	"testing"

	"carousel/api"
	"carousel/net"
)

func areCut(t *testing.T, what string, n *net.Net, wanted string) {
	t.Helper()
	if ways := lossy(n); ways != wanted {
		t.Errorf("P20.1: %s: these ways are cut: %s, want %s", what, ways, wanted)
	}
}

// Each way by itself: the way back is whole, and so is each other one.
func TestCutOfOneWay(t *testing.T) {
	for from := range workers {
		for to := range workers {
			for _, room := range []int{1, 500} {
				n := made(t, room)
				n.Cut(from, to, true)
				areCut(t, "Cut of a way", n, fmt.Sprintf("%d>%d ", from, to))
			}
		}
	}
}

func TestCutOfAllWaysButOne(t *testing.T) {
	for whole := range workers * workers {
		n := made(t, 5)
		for way := range workers * workers {
			n.Cut(way/workers, way%workers, true)
		}
		n.Cut(whole/workers, whole%workers, false)
		p := packet(whole/workers, whole%workers, "a")
		for way := range workers * workers {
			sends(t, n, packet(way/workers, way%workers, "a"), api.OK)
		}
		holds(t, "all ways cut but one", n, []net.Packet{p})
	}
}

// It does not count how often a way was cut, or made whole.
func TestCutOfAWayTwice(t *testing.T) {
	n := made(t, 500)
	n.Cut(3, 4, true)
	n.Cut(3, 4, true)
	n.Cut(5, 6, true)
	sends(t, n, packet(3, 4, "a"), api.OK)
	hasRow(t, "a way cut twice", n, "")
	n.Cut(3, 4, false)
	sends(t, n, packet(3, 4, "b"), api.OK)
	hasRow(t, "a way whole again", n, "b")
	n.Cut(3, 4, false)
	n.Cut(3, 4, true)
	sends(t, n, packet(3, 4, "c"), api.OK)
	hasRow(t, "a way cut again", n, "b")
	areCut(t, "Cut of two ways", n, "3>4 5>6 ")
}

func TestCutOfAWholeWay(t *testing.T) {
	n := made(t, 500)
	n.Cut(3, 4, false)
	n.Cut(5, 6, true)
	areCut(t, "a way that was whole made whole", n, "5>6 ")
}

// Those that wait stay, and may go as ever; what was lost does not come, when the way is whole again.
func TestCutWhileSomeWait(t *testing.T) {
	n := with(t, 8, packet(1, 2, "a"), packet(2, 1, "b"), packet(1, 2, "c"), packet(1, 2, "d"))
	n.Cut(1, 2, true)
	hasRow(t, "a way cut while some wait", n, "abcd")
	sends(t, n, packet(1, 2, "e"), api.OK)
	says(t, "Spoil on a cut way", n.Spoil(2, 0, 0x20), true)
	takes(t, n, 0, packet(1, 2, "a"))
	takes(t, n, 1, packet(1, 2, "C"))
	says(t, "Lose on a cut way", n.Lose(1), true)
	n.Cut(1, 2, false)
	hasRow(t, "a way whole again", n, "b")
	sends(t, n, packet(1, 2, "f"), api.OK)
	hasRow(t, "a way whole again", n, "bf")
}

func TestCutOfNoWorkersChangesNothing(t *testing.T) {
	for _, room := range []int{4, 5, 20} {
		changesNothing(t, "Cut of no worker's way", room, func(n *net.Net) {
			for _, w := range noWorkers() {
				for _, lost := range []bool{true, false} {
					for other := -1; other <= workers; other++ {
						n.Cut(w, other, lost)
						n.Cut(other, w, lost)
					}
					n.Cut(w, w, lost)
				}
			}
		})
	}
}
