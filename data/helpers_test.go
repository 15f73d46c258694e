package data_test

import (
	"math"
	"slices"
	"testing"

	"carousel/api"
	"carousel/data"
)

// short leaves out what nobody would read.
func short(l []int) []int { return l[:min(len(l), 20)] }

// batches asks Batch for places.
func batches(t *testing.T, total, size int, step int64, wanted ...int) {
	t.Helper()
	if l, err := data.Batch(total, size, step); err != api.OK || !slices.Equal(l, wanted) {
		t.Errorf("P16.1: Batch(%d, %d, %d): %v, %d, want %v", total, size, step, short(l), err, short(wanted))
	}
}

// refusesBatch asks Batch for EARG and for nothing beside it.
func refusesBatch(t *testing.T, total, size int, step int64) {
	t.Helper()
	if l, err := data.Batch(total, size, step); err != api.EARG || len(l) != 0 {
		t.Errorf("P16.1: Batch(%d, %d, %d): %v, %d, want none, %d", total, size, step, short(l), err, api.EARG)
	}
}

// shards asks Shard for a member's part.
func shards(t *testing.T, batch, members []int, who int, wanted ...int) {
	t.Helper()
	if l, err := data.Shard(batch, members, who); err != api.OK || !slices.Equal(l, wanted) {
		t.Errorf("P16.1: Shard of %d places %v, members %v, for %d: %v, %d, want %v", len(batch), short(batch), members, who, short(l), err, short(wanted))
	}
}

// refusesShard asks Shard for EARG and for nothing beside it.
func refusesShard(t *testing.T, batch, members []int, who int) {
	t.Helper()
	if l, err := data.Shard(batch, members, who); err != api.EARG || len(l) != 0 {
		t.Errorf("P16.1: Shard of %d places %v, members %v, for %d: %v, %d, want none, %d", len(batch), short(batch), members, who, short(l), err, api.EARG)
	}
}

// row is so many numbers, each one more than the last.
func row(from, many int) []int {
	l := make([]int, many)
	for i := range l {
		l[i] = from + i
	}
	return l
}

// farOff are numbers beyond every range; some would not be, if only some of their bits were taken.
func farOff() []int {
	return []int{-1, -2, -5, -16, -256, -1 << 8, -1<<8 + 3, -1<<16 + 3, -1<<32 + 3, -1 << 32, math.MinInt, math.MinInt + 3,
		257, 258, 300, 1<<9 + 3, 1<<16 + 3, 1<<31 + 3, 1 << 32, 1<<32 + 3, 1<<62 + 3, math.MaxInt - 1, math.MaxInt}
}

// whole is all workers that there may be.
func whole() []int { return row(0, api.MaxWorkers) }

// picked are those workers whose bits are set.
func picked(bits int) []int {
	var members []int
	for m := range api.MaxWorkers {
		if bits>>m&1 == 1 {
			members = append(members, m)
		}
	}
	return members
}

// noMembers are lists that are not Good, but that the worker 1 is in.
func noMembers() [][]int {
	return [][]int{
		{1, 1}, {1, 0}, {3, 1}, {0, 1, 1}, {1, 1, 2}, {0, 2, 1}, {1, 2, 2}, {1, 5, 4}, {2, 1, 3},
		{-1, 1}, {1, -1}, {1, 16}, {16, 1}, {1, 17}, {0, 1, 15, 16}, {-1, 0, 1}, {1, math.MaxInt}, {math.MinInt, 1},
		append(whole(), 16), append(whole(), 15), append([]int{-1}, whole()...), append([]int{0}, whole()...), slices.Repeat([]int{1}, 40),
	}
}
