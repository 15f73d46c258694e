package net_test

import (
	"fmt"
	"slices"
	"testing"

	"carousel/api"
	"carousel/net"
)

// strewn gives numbers that follow no plain rule, the same ones each time.
type strewn uint64

func (s *strewn) below(n int) int {
	*s = *s*6364136223846793005 + 1442695040888963407
	return int(uint64(*s)>>33) % n
}

// slow is a network kept by another road: each packet and each copy has bytes of its own, and a mark once it is spoilt.
type slow struct {
	room  int
	row   []net.Packet
	spoil []bool
	ways  map[[2]int]bool
}

func (s *slow) has(k int) bool { return 0 <= k && k < len(s.row) }

func (s *slow) add(p net.Packet, spoilt bool) {
	s.row = append(s.row, net.Packet{From: p.From, To: p.To, B: slices.Clone(p.B)})
	s.spoil = append(s.spoil, spoilt)
}

func (s *slow) send(p net.Packet) api.Errno {
	for _, w := range []int{p.From, p.To} {
		if w < 0 || w > 15 {
			return api.EARG
		}
	}
	if len(p.B) > 32768 {
		return api.EARG
	}
	if s.ways[[2]int{p.From, p.To}] {
		return api.OK
	}
	if len(s.row) >= s.room {
		return api.EFULL
	}
	s.add(p, false)
	return api.OK
}

func (s *slow) take(k int) (net.Packet, bool) {
	if !s.has(k) {
		return net.Packet{}, false
	}
	p := s.row[k]
	s.row, s.spoil = slices.Delete(s.row, k, k+1), slices.Delete(s.spoil, k, k+1)
	return p, true
}

func (s *slow) copy(k int) bool {
	if !s.has(k) || len(s.row) >= s.room {
		return false
	}
	s.add(s.row[k], s.spoil[k])
	return true
}

func (s *slow) change(k, at int, by byte) bool {
	if !s.has(k) || at < 0 || at >= len(s.row[k].B) || by == 0 || s.spoil[k] {
		return false
	}
	s.row[k].B[at] ^= by
	s.spoil[k] = true
	return true
}

// act does one thing with both, and tells what each answered.
func act(s *strewn, n *net.Net, other *slow) (got, wanted string) {
	k, at, by := s.below(n.Len()+3)-1, s.below(6)-1, byte(s.below(3)*s.below(90))
	from, to := s.below(6)-1, s.below(6)-1+s.below(2)*12
	switch s.below(9) {
	case 0, 1, 2, 3:
		p := net.Packet{From: from, To: to, B: counting(300)[s.below(200):][:s.below(5)]}
		return fmt.Sprint("Send ", n.Send(p)), fmt.Sprint("Send ", other.send(p))
	case 4:
		p, ok := n.Take(k)
		q, fine := other.take(k)
		return fmt.Sprint("Take ", told(p), ok), fmt.Sprint("Take ", told(q), fine)
	case 5:
		_, fine := other.take(k)
		return fmt.Sprint("Lose ", n.Lose(k)), fmt.Sprint("Lose ", fine)
	case 6:
		return fmt.Sprint("Copy ", n.Copy(k)), fmt.Sprint("Copy ", other.copy(k))
	case 7:
		return fmt.Sprint("Spoil ", n.Spoil(k, at, by)), fmt.Sprint("Spoil ", other.change(k, at, by))
	}
	lost := s.below(3) == 0
	n.Cut(from, to, lost)
	other.ways[[2]int{from, to}] = lost
	return "Cut", "Cut"
}

// Plays of many acts, in rooms of several sizes: each answer, and all that waits behind it, is as by the other road.
func TestPlays(t *testing.T) {
	for play := range 60 {
		s, room := strewn(play), []int{1, 2, 3, 8, 40, mostRoom}[play%6]
		n, other := made(t, room), &slow{room: room, ways: map[[2]int]bool{}}
		for step := range 400 {
			got, wanted := act(&s, n, other)
			if got != wanted {
				t.Fatalf("P20.1: play %d, room %d, step %d: %s, want %s", play, room, step, got, wanted)
			}
			holds(t, got, n, other.row)
			if t.Failed() {
				t.Fatalf("P20.1: play %d, room %d, step %d", play, room, step)
			}
		}
	}
}

// Two plays of the same acts tell the same: an answer hangs on nothing but what the network was told.
func TestPlaysAgain(t *testing.T) {
	for play := range 12 {
		var tellings [2]string
		for i := range tellings {
			s := strewn(play)
			n, other := made(t, 20), &slow{room: 20, ways: map[[2]int]bool{}}
			for range 200 {
				got, _ := act(&s, n, other)
				tellings[i] += got + " "
			}
			tellings[i] += all(n)
		}
		if tellings[0] != tellings[1] {
			t.Errorf("P20.1: play %d, a second time: %s, want %s", play, tellings[1], tellings[0])
		}
	}
}
