package frame_test

import (
	"testing"

	"carousel/api"
	"carousel/frame"
)

func TestGoodOfEachKind(t *testing.T) {
	for kind := -300; kind <= 600; kind++ {
		f := with(plain(), func(f *frame.Frame) { f.Kind = kind })
		isGood(t, f, kind >= 1 && kind <= 20)
	}
	for _, kind := range farOff() {
		isGood(t, with(plain(), func(f *frame.Frame) { f.Kind = kind }), false)
	}
}

func TestGoodOfEachWorker(t *testing.T) {
	for _, other := range []int{0, 7, api.MaxWorkers - 1} {
		for v := -300; v <= 600; v++ {
			may := v >= 0 && v <= 15
			isGood(t, frame.Frame{Kind: 1, From: v, To: other}, may)
			isGood(t, frame.Frame{Kind: 20, From: other, To: v}, may)
		}
		for _, v := range farOff() {
			isGood(t, frame.Frame{Kind: 1, From: v, To: other}, false)
			isGood(t, frame.Frame{Kind: 20, From: other, To: v}, false)
		}
	}
}

// Nobody is kept from a word to himself, nor are any two apart.
func TestGoodOfAnyTwoWorkers(t *testing.T) {
	for from := -1; from <= api.MaxWorkers; from++ {
		for to := -1; to <= api.MaxWorkers; to++ {
			may := from != -1 && to != -1 && from != api.MaxWorkers && to != api.MaxWorkers
			isGood(t, frame.Frame{Kind: 5, From: from, To: to}, may)
		}
	}
}

func TestGoodOfBodies(t *testing.T) {
	for _, body := range bodies() {
		isGood(t, frame.Frame{Kind: 1, Body: body}, true)
		isGood(t, frame.Frame{Kind: 0, Body: body}, false)
	}
	for _, body := range wide() {
		isGood(t, frame.Frame{Kind: 1, Body: body}, false)
		isGood(t, frame.Frame{Kind: 1, Body: body[:api.MaxBody]}, true)
		isGood(t, frame.Frame{Kind: 1, Body: body[:0]}, true)
	}
}

func TestGoodOfAnyViewAndSeq(t *testing.T) {
	for i := range 32 {
		for _, v := range []uint32{0, 1 << i, ^uint32(1 << i), most32} {
			isGood(t, frame.Frame{Kind: 1, View: v, Seq: ^v}, true)
			isGood(t, frame.Frame{Kind: 1, View: ^v, Seq: v}, true)
			isGood(t, frame.Frame{Kind: 0, View: v, Seq: v}, false)
		}
	}
}

func TestGoodOfMany(t *testing.T) {
	for _, f := range goodOnes() {
		isGood(t, f, true)
	}
	for _, f := range wrongOnes() {
		isGood(t, f, false)
	}
}
