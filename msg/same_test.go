package msg_test

import (
	"math"
	"slices"
	"testing"

	"carousel/api"
	"carousel/msg"
)

// apart is a message with lists of its own, so that none is changed for another.
func apart(m msg.Message) msg.Message {
	m.N, m.W = slices.Clone(m.N), slices.Clone(m.W)
	return m
}

func TestSameOfAlikeOnes(t *testing.T) {
	for _, m := range slices.Concat(goodOnes(), wrongOnes()) {
		areSame(t, m, m, true)
		areSame(t, m, apart(m), true)
	}
}

// Each field by itself, by one bit or by all of them; whether they may be is not asked.
func TestSameFieldByField(t *testing.T) {
	for i := range 64 {
		for _, m := range []msg.Message{{}, plain(), {Kind: -1, From: 300, To: -300, View: most32, Seq: most32, N: edges(), W: wideEdges()}} {
			areSame(t, m, with(m, func(m *msg.Message) { m.Kind ^= 1 << i }), false)
			areSame(t, m, with(m, func(m *msg.Message) { m.From ^= 1 << i }), false)
			areSame(t, m, with(m, func(m *msg.Message) { m.To ^= 1 << i }), false)
			areSame(t, m, with(m, func(m *msg.Message) { m.View ^= 1 << (i % 32) }), false)
			areSame(t, m, with(m, func(m *msg.Message) { m.Seq ^= 1 << (i % 32) }), false)
			areSame(t, m, apart(m), true)
		}
	}
	areSame(t, plain(), with(plain(), func(m *msg.Message) { m.Kind = ^m.Kind }), false)
	areSame(t, msg.Message{}, plain(), false)
}

// What is one's is not held against what is the other's.
func TestSameOfFieldsTurnedRound(t *testing.T) {
	areSame(t, msg.Message{Kind: 1, From: 2, To: 3}, msg.Message{Kind: 1, From: 3, To: 2}, false)
	areSame(t, msg.Message{Kind: 1, From: 2, To: 3}, msg.Message{Kind: 2, From: 1, To: 3}, false)
	areSame(t, msg.Message{Kind: 1, View: 2, Seq: 3}, msg.Message{Kind: 1, View: 3, Seq: 2}, false)
	areSame(t, msg.Message{N: []int64{1, 2}}, msg.Message{N: []int64{2, 1}}, false)
	areSame(t, msg.Message{W: []api.Wide{{Lo: 1}, {Lo: 2}}}, msg.Message{W: []api.Wide{{Lo: 2}, {Lo: 1}}}, false)
	areSame(t, msg.Message{W: []api.Wide{{Hi: 1, Lo: 2}}}, msg.Message{W: []api.Wide{{Hi: 2, Lo: 1}}}, false)
}

func TestSameOfOneOfMany(t *testing.T) {
	for _, count := range []int{1, 2, 7, most, most + 1} {
		m := with(plain(), func(m *msg.Message) { m.N, m.W = wholes(count), wides(count) })
		for i := range count {
			for _, bit := range []int{0, i % 64, 63} {
				areSame(t, m, with(apart(m), func(m *msg.Message) { m.N[i] ^= 1 << bit }), false)
				areSame(t, m, with(apart(m), func(m *msg.Message) { m.W[i].Hi ^= 1 << bit }), false)
				areSame(t, m, with(apart(m), func(m *msg.Message) { m.W[i].Lo ^= 1 << bit }), false)
			}
		}
		areSame(t, m, apart(m), true)
	}
}

// A list and its front, or its end, or one with noughts behind it.
func TestSameOfHowMany(t *testing.T) {
	for _, count := range []int{1, 2, 3, 256, most} {
		m := with(plain(), func(m *msg.Message) { m.N, m.W = wholes(count), wides(count) })
		areSame(t, m, with(m, func(m *msg.Message) { m.N = m.N[:count-1] }), false)
		areSame(t, m, with(m, func(m *msg.Message) { m.W = m.W[:count-1] }), false)
		areSame(t, m, with(m, func(m *msg.Message) { m.N = m.N[1:] }), false)
		areSame(t, m, with(m, func(m *msg.Message) { m.W = m.W[1:] }), false)
		areSame(t, m, with(m, func(m *msg.Message) { m.N = nil }), false)
		areSame(t, m, with(m, func(m *msg.Message) { m.W = nil }), false)
		areSame(t, m, with(apart(m), func(m *msg.Message) { m.N = append(m.N, 0) }), false)
		areSame(t, m, with(apart(m), func(m *msg.Message) { m.W = append(m.W, api.Wide{}) }), false)
	}
	areSame(t, msg.Message{N: []int64{0}}, msg.Message{}, false)
	areSame(t, msg.Message{W: []api.Wide{{}}}, msg.Message{}, false)
	areSame(t, msg.Message{N: []int64{0}}, msg.Message{W: []api.Wide{{}}}, false)
	areSame(t, msg.Message{N: make([]int64, 2)}, msg.Message{W: make([]api.Wide, 1)}, false)
}

func TestSameOfNumbersAtTheirBounds(t *testing.T) {
	for i, a := range edges() {
		for j, b := range edges() {
			areSame(t, msg.Message{N: []int64{a}}, msg.Message{N: []int64{b}}, i == j)
		}
	}
	for i, a := range wideEdges() {
		for j, b := range wideEdges() {
			areSame(t, msg.Message{W: []api.Wide{a}}, msg.Message{W: []api.Wide{b}}, i == j)
		}
	}
	areSame(t, msg.Message{Kind: math.MaxInt}, msg.Message{Kind: math.MinInt}, false)
}

func TestSameOfNoList(t *testing.T) {
	for _, m := range []msg.Message{
		{Kind: 1, N: []int64{}},
		{Kind: 1, W: []api.Wide{}},
		{Kind: 1, N: []int64{}, W: []api.Wide{}},
		{Kind: 1, N: wholes(9)[:0], W: wides(9)[9:]},
	} {
		areSame(t, m, msg.Message{Kind: 1}, true)
	}
}

// Spare room behind a list is none of it.
func TestSameOfSpareRoom(t *testing.T) {
	one, other := wholes(9), wholes(9)
	other[5] = 7
	areSame(t, msg.Message{N: one[:5]}, msg.Message{N: other[:5]}, true)
	areSame(t, msg.Message{N: one[:6]}, msg.Message{N: other[:6]}, false)
	areSame(t, msg.Message{N: one[:5]}, msg.Message{N: slices.Clone(one[:5:5])}, true)
}
