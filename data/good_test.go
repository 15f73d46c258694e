package data_test

import (
	"math"
	"slices"
	"testing"

	"carousel/api"
	"carousel/data"
)

func isGood(t *testing.T, members []int, wanted bool) {
	t.Helper()
	if data.Good(members) != wanted {
		t.Errorf("P16.1: Good of %d numbers %v: %t", len(members), short(members), !wanted)
	}
}

func TestGoodOfNone(t *testing.T) {
	isGood(t, nil, false)
	isGood(t, []int{}, false)
	isGood(t, make([]int, 3)[:0], false)
}

func TestGoodOfOne(t *testing.T) {
	for m := range api.MaxWorkers {
		isGood(t, []int{m}, true)
		isGood(t, []int{m, m}, false)
	}
	isGood(t, []int{16}, false)
	isGood(t, []int{17}, false)
	for _, m := range farOff() {
		isGood(t, []int{m}, false)
	}
}

// Each choice out of all workers, rising, and falling.
func TestGoodOfEachChoice(t *testing.T) {
	for bits := 1; bits < 1<<api.MaxWorkers; bits++ {
		members := picked(bits)
		isGood(t, members, true)
		slices.Reverse(members)
		isGood(t, members, len(members) == 1)
	}
}

func TestGoodOfAll(t *testing.T) {
	isGood(t, whole(), true)
	for i := range api.MaxWorkers {
		isGood(t, slices.Insert(whole(), i, i), false)
		isGood(t, slices.Insert(whole(), i, -1), false)
		isGood(t, slices.Delete(whole(), i, i+1), true)
		for j := range i {
			changed := whole()
			changed[i], changed[j] = changed[j], changed[i]
			isGood(t, changed, false)
			changed = whole()
			changed[i] = changed[j]
			isGood(t, changed, false)
		}
		for _, m := range append(farOff(), 16, 17, 31) {
			changed := whole()
			changed[i] = m
			isGood(t, changed, false)
		}
	}
}

func TestGoodOfMore(t *testing.T) {
	for _, many := range []int{17, 18, 32, 256, 1000} {
		isGood(t, row(0, many), false)
		isGood(t, row(-1, many), false)
		isGood(t, row(16-many, many), false)
		isGood(t, slices.Repeat([]int{3}, many), false)
		isGood(t, append(whole(), slices.Repeat([]int{15}, many-16)...), false)
	}
	isGood(t, row(0, 16), true)
	isGood(t, row(1, 16), false)
	isGood(t, row(-1, 16), false)
	isGood(t, row(1, 15), true)
}

// Every list of up to four of some numbers, held against the same list put in order.
func TestGoodOfEachList(t *testing.T) {
	some := []int{math.MinInt, -1, 0, 1, 7, 14, 15, 16, math.MaxInt}
	var all func(list []int)
	all = func(list []int) {
		inOrder := slices.Compact(slices.Sorted(slices.Values(list)))
		inRange := !slices.ContainsFunc(list, func(m int) bool { return m < 0 || m > 15 })
		isGood(t, list, len(list) > 0 && inRange && slices.Equal(list, inOrder))
		if len(list) == 4 {
			return
		}
		for _, m := range some {
			all(append(slices.Clone(list), m))
		}
	}
	all(nil)
}

// Spare room is no member.
func TestGoodLeavesSpareRoom(t *testing.T) {
	room := []int{0, 1, 2, -1, 99}
	isGood(t, room[:3], true)
	isGood(t, room[1:3], true)
	isGood(t, room, false)
}
