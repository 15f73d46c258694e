package msg_test

import (
	"testing"

	"carousel/api"
	"carousel/msg"
)

func TestGoodOfEachKind(t *testing.T) {
	for kind := -300; kind <= 600; kind++ {
		isGood(t, msg.Message{Kind: kind}, kind >= 1 && kind <= 20)
		isGood(t, with(plain(), func(m *msg.Message) { m.Kind = kind }), kind >= 1 && kind <= 20)
	}
	for _, kind := range farOff() {
		isGood(t, msg.Message{Kind: kind}, false)
	}
}

func TestGoodOfEachWorker(t *testing.T) {
	for _, other := range []int{0, 7, api.MaxWorkers - 1} {
		for v := -300; v <= 600; v++ {
			may := v >= 0 && v <= 15
			isGood(t, msg.Message{Kind: 1, From: v, To: other}, may)
			isGood(t, msg.Message{Kind: 20, From: other, To: v}, may)
		}
		for _, v := range farOff() {
			isGood(t, msg.Message{Kind: 1, From: v, To: other}, false)
			isGood(t, msg.Message{Kind: 20, From: other, To: v}, false)
		}
	}
}

// Nobody is kept from a word to himself, nor are any two apart.
func TestGoodOfAnyTwoWorkers(t *testing.T) {
	for from := -1; from <= api.MaxWorkers; from++ {
		for to := -1; to <= api.MaxWorkers; to++ {
			may := from != -1 && to != -1 && from != api.MaxWorkers && to != api.MaxWorkers
			isGood(t, msg.Message{Kind: 5, From: from, To: to}, may)
		}
	}
}

// Each list by itself, and beside the other.
func TestGoodOfHowMany(t *testing.T) {
	for count := range 1100 {
		isGood(t, msg.Message{Kind: 1, N: make([]int64, count)}, count <= 500)
		isGood(t, msg.Message{Kind: 1, W: make([]api.Wide, count)}, count <= 500)
		isGood(t, msg.Message{Kind: 1, N: make([]int64, count), W: make([]api.Wide, 500)}, count <= 500)
		isGood(t, msg.Message{Kind: 1, N: make([]int64, 500), W: make([]api.Wide, count)}, count <= 500)
		isGood(t, msg.Message{Kind: 1, N: make([]int64, count), W: make([]api.Wide, count)}, count <= 500)
	}
	for _, count := range tooMany() {
		isGood(t, msg.Message{Kind: 1, N: make([]int64, count)}, false)
		isGood(t, msg.Message{Kind: 1, W: make([]api.Wide, count)}, false)
	}
}

// Spare room behind a list is none of it.
func TestGoodOfSpareRoom(t *testing.T) {
	n, w := wholes(2000), wides(2000)
	isGood(t, msg.Message{Kind: 1, N: n[:500], W: w[:500]}, true)
	isGood(t, msg.Message{Kind: 1, N: n[:0], W: w[1500:]}, true)
	isGood(t, msg.Message{Kind: 1, N: n[:501], W: w[:500]}, false)
	isGood(t, msg.Message{Kind: 1, N: n[:500], W: w[:501]}, false)
}

func TestGoodOfAnyNumbers(t *testing.T) {
	for _, n := range edges() {
		isGood(t, msg.Message{Kind: 1, N: []int64{n}}, true)
	}
	for _, w := range wideEdges() {
		isGood(t, msg.Message{Kind: 1, W: []api.Wide{w}}, true)
	}
	for i := range 32 {
		isGood(t, msg.Message{Kind: 1, View: 1 << i, Seq: ^uint32(1 << i)}, true)
		isGood(t, msg.Message{Kind: 1, View: ^uint32(1 << i), Seq: 1 << i}, true)
	}
}

func TestGoodOfMany(t *testing.T) {
	for _, m := range goodOnes() {
		isGood(t, m, true)
	}
	for _, m := range wrongOnes() {
		isGood(t, m, false)
	}
}
