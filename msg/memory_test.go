package msg_test

import (
	"bytes"
	"slices"
	"testing"

	"carousel/api"
	"carousel/frame"
	"carousel/msg"
)

// inRoom lays a list in a wider one, so that there is room ahead of it and spare room behind it.
func inRoom[T any](list []T, other T) (room, part []T) {
	room = slices.Concat(slices.Repeat([]T{other}, 2), list, slices.Repeat([]T{other}, 30))
	return room, room[2 : 2+len(list)]
}

// spoil writes over a list, its spare room included.
func spoil[T any](list []T, other T) {
	list = list[:cap(list)]
	for i := range list {
		list[i] = other
	}
}

// laidOut is a message with lists that have room about them.
type laidOut struct {
	m     msg.Message
	roomN []int64
	roomW []api.Wide
}

func layOut(m msg.Message) laidOut {
	l := laidOut{m: m}
	l.roomN, l.m.N = inRoom(m.N, 0x55)
	l.roomW, l.m.W = inRoom(m.W, api.Wide{Hi: 0x66, Lo: 0x77})
	return l
}

func (l laidOut) isAsLaid(m msg.Message) bool {
	wanted := layOut(m)
	return slices.Equal(l.roomN, wanted.roomN) && slices.Equal(l.roomW, wanted.roomW)
}

func (l laidOut) spoil() {
	spoil(l.roomN, 0x2BAD)
	spoil(l.roomW, api.Wide{Hi: 0x2BAD, Lo: 0x3BAD})
}

func TestListsStay(t *testing.T) {
	for _, m := range slices.Concat(goodOnes(), wrongOnes()) {
		l, other := layOut(m), layOut(m)
		msg.Good(l.m)
		msg.Put(l.m)
		msg.Same(l.m, other.m)
		if !l.isAsLaid(m) || !other.isAsLaid(m) {
			t.Fatalf("P19.1: the lists of %s, or the room about them, are changed", told(m))
		}
	}
}

func TestPutIsNewMemory(t *testing.T) {
	for _, m := range goodOnes() {
		l := layOut(m)
		first, second := msg.Put(l.m), msg.Put(l.m)
		spoil(first, 0xA5)
		if !l.isAsLaid(m) {
			t.Errorf("P19.1: Put of %s shares memory with its lists", told(m))
		}
		l.spoil()
		if !bytes.Equal(second, whole(m)) {
			t.Errorf("P19.1: Put of %s: two answers share memory, or it goes with the lists", told(m))
		}
	}
}

func TestBytesStay(t *testing.T) {
	for _, m := range goodOnes() {
		b := msg.Put(m)
		wrong := frame.Encode(frame.Frame{Kind: 1, Body: b[:len(b)/2]})
		for _, handed := range [][]byte{b, b[:len(b)-1], b[1:], b[:len(b)/2], summed(b), wrong} {
			room, part := inRoom(handed, 92)
			was := bytes.Clone(room)
			got, _ := msg.Get(part)
			spoil(got.N, 0x2BAD)
			spoil(got.W, api.Wide{Hi: 0x2BAD, Lo: 0x3BAD})
			if !bytes.Equal(room, was) {
				t.Fatalf("P19.1: Get of %d bytes: they, or the room about them, are changed", len(part))
			}
		}
	}
}

func TestGetIsNewMemory(t *testing.T) {
	for _, m := range goodOnes() {
		room, part := inRoom(msg.Put(m), 92)
		first, _ := msg.Get(part)
		second, _ := msg.Get(part)
		spoil(first.N, 0x2BAD)
		if !slices.Equal(first.W, m.W) {
			t.Errorf("P19.1: Get of %s: its two lists share memory", told(m))
		}
		spoil(first.W, api.Wide{Hi: 0x2BAD, Lo: 0x3BAD})
		gets(t, part, m)
		spoil(room, 0xA5)
		if !alike(second, m) {
			t.Errorf("P19.1: Get of %s: two answers share memory, or it goes with the bytes", told(m))
		}
	}
}

// Spare room behind a list or behind the bytes is none of them: neither does it finish a message, nor spoil one.
func TestSpareRoomIsLeft(t *testing.T) {
	n, w := wholes(700), wides(700)
	for _, count := range counts() {
		m := with(plain(), func(m *msg.Message) { m.N, m.W = n[:count], w[:count] })
		puts(t, m, whole(with(plain(), func(m *msg.Message) { m.N, m.W = wholes(count), wides(count) })))
	}
	b := msg.Put(plain())
	for n := range b {
		refuses(t, "a front with the rest in the spare room", b[:n])
	}
	_, part := inRoom(b, 92)
	gets(t, part, plain())
}
