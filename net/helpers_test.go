package net_test

import (
	"fmt"
	"math"
	"strings"
	"testing"

	"carousel/api"
	"carousel/net"
)

const (
	mostRoom  = 65536
	mostBytes = 32768
	workers   = api.MaxWorkers
)

// packet is one with a text's bytes.
func packet(from, to int, text string) net.Packet {
	return net.Packet{From: from, To: to, B: []byte(text)}
}

// letters are packets with a letter each as their bytes, every one on a way of its own.
func letters(text string) []net.Packet {
	var all []net.Packet
	for _, c := range text {
		all = append(all, packet(int(c)%workers, int(c)/7%workers, string(c)))
	}
	return all
}

// counting are so many bytes that do not repeat soon.
func counting(count int) []byte {
	b := make([]byte, count)
	for i := range b {
		b[i] = byte(i*7 + i/251)
	}
	return b
}

func made(t *testing.T, room int) *net.Net {
	t.Helper()
	n, err := net.New(room)
	if n == nil || err != api.OK {
		t.Fatalf("P20.1: New of a room of %d: %v, %d", room, n, err)
	}
	return n
}

// with is a network of that room to which all of these were sent.
func with(t *testing.T, room int, packets ...net.Packet) *net.Net {
	t.Helper()
	n := made(t, room)
	for _, p := range packets {
		sends(t, n, p, api.OK)
	}
	return n
}

// noPlaces are numbers that are no place among so many.
func noPlaces(count int) []int {
	return []int{-1, -2, -count, -256, -1 << 16, -1 << 32, math.MinInt + 1, math.MinInt,
		count, count + 1, 2*count + 1, 1<<16 + 1, 1 << 32, 1<<32 + 1, 1<<62 + 1, math.MaxInt - 1, math.MaxInt}
}

// noWorkers are numbers of none; some would be, if only some of their bits were taken.
func noWorkers() []int {
	return []int{-1, -2, -15, -16, -256, -1 << 16, -1<<32 + 1, math.MinInt, math.MinInt + 1,
		workers, workers + 1, 31, 32, 255, 256, 257, 1<<16 + 1, 1 << 32, 1<<32 + 1, 1<<62 + 1, math.MaxInt - 1, math.MaxInt}
}

// told leaves out what nobody would read.
func told(p net.Packet) string {
	return fmt.Sprintf("%d>%d %d bytes %q", p.From, p.To, len(p.B), p.B[:min(len(p.B), 30)])
}

func alike(a, b net.Packet) bool {
	return a.From == b.From && a.To == b.To && string(a.B) == string(b.B)
}

// isNone tells whether there is nothing in a packet.
func isNone(p net.Packet) bool { return alike(p, net.Packet{}) }

func sends(t *testing.T, n *net.Net, p net.Packet, wanted api.Errno) {
	t.Helper()
	before := n.Len()
	if err := n.Send(p); err != wanted {
		t.Errorf("P20.1: Send of %s where %d wait: %d, want %d", told(p), before, err, wanted)
	}
}

// holds asks Len and At for just these, in their order.
func holds(t *testing.T, what string, n *net.Net, wanted []net.Packet) {
	t.Helper()
	if n.Len() != len(wanted) {
		t.Errorf("P20.1: %s: %d wait, want %d", what, n.Len(), len(wanted))
	}
	for k, w := range wanted {
		if p, ok := n.At(k); !ok || !alike(p, w) {
			t.Errorf("P20.1: %s: At(%d): %s, %t, want %s", what, k, told(p), ok, told(w))
		}
	}
}

// letterRow tells the bytes of all that wait, one packet's behind another's.
func letterRow(n *net.Net) string {
	row := ""
	for k := range n.Len() {
		p, _ := n.At(k)
		row += string(p.B)
	}
	return row
}

func hasRow(t *testing.T, what string, n *net.Net, wanted string) {
	t.Helper()
	if row := letterRow(n); row != wanted {
		t.Errorf("P20.1: %s: %q wait, want %q", what, row, wanted)
	}
}

// says asks for what a call should have said.
func says(t *testing.T, what string, got, wanted bool) {
	t.Helper()
	if got != wanted {
		t.Errorf("P20.1: %s: %t", what, got)
	}
}

// takes asks Take for a packet.
func takes(t *testing.T, n *net.Net, k int, wanted net.Packet) {
	t.Helper()
	if p, ok := n.Take(k); !ok || !alike(p, wanted) {
		t.Errorf("P20.1: Take(%d): %s, %t, want %s", k, told(p), ok, told(wanted))
	}
}

// lossy tells which ways are cut, by sending along each. A network is not the same afterwards.
func lossy(n *net.Net) string {
	ways := ""
	for from := range workers {
		for to := range workers {
			// In a room that is full, too, a way that is cut takes what is sent.
			before := n.Len()
			if err := n.Send(packet(from, to, "?")); err == api.OK && n.Len() == before {
				ways += fmt.Sprintf("%d>%d ", from, to)
			}
		}
	}
	return ways
}

// all is what later calls could tell of a network. It is used up by that.
func all(n *net.Net) string {
	var s strings.Builder
	for k := range n.Len() {
		p, _ := n.At(k)
		fmt.Fprintf(&s, "%s ", told(p))
	}
	for k := range n.Len() {
		p, _ := n.At(k)
		for at := range p.B {
			fmt.Fprintf(&s, "%t ", n.Spoil(k, at, 1))
		}
	}
	s.WriteString(lossy(n))
	for n.Copy(0) {
	}
	fmt.Fprintf(&s, "room %d", n.Len())
	for k := range min(n.Len(), 3) {
		p, ok := n.Take(0)
		fmt.Fprintf(&s, " %d %s %t", k, told(p), ok)
	}
	return s.String()
}

// busy is a network with some of everything: packets, with bytes and without, one spoilt and its copy, ways that are cut.
func busy(t *testing.T, room int) *net.Net {
	t.Helper()
	n := with(t, room, packet(0, 15, "abc"), packet(15, 0, "de"), packet(3, 3, ""))
	says(t, "Spoil of a whole one", n.Spoil(1, 1, 9), true)
	says(t, "Copy of a spoilt one", n.Copy(1), true)
	n.Cut(2, 5, true)
	n.Cut(15, 15, true)
	n.Cut(15, 0, true)
	return n
}

// changesNothing asks that a network is as one that was not asked at all.
func changesNothing(t *testing.T, what string, room int, ask func(n *net.Net)) {
	t.Helper()
	n := busy(t, room)
	ask(n)
	if got, wanted := all(n), all(busy(t, room)); got != wanted {
		t.Errorf("P20.1: %s changes what is told later: %s, want %s", what, got, wanted)
	}
}
