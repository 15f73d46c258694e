package data_test

import (
	"fmt"
	"slices"
	"testing"

	"carousel/api"
	"carousel/data"
)

// inRoom lays a list in a wider one, so that there is room ahead of it and spare room behind it.
func inRoom(list []int) (room, part []int) {
	room = slices.Concat([]int{90, 91}, list, []int{92, 93, 94, 95, 96})
	return room, room[2 : 2+len(list)]
}

// spoil writes over a list, its spare room included.
func spoil(list []int) {
	for i := range list[:cap(list)] {
		list[:cap(list)][i] = 77
	}
}

// What one batch's list becomes is not to be seen in another one's.
func TestBatchIsNewMemory(t *testing.T) {
	for total := 1; total <= 20; total++ {
		for size := 1; size <= total; size++ {
			first, _ := data.Batch(total, size, 3)
			second, _ := data.Batch(total, size, 3)
			wanted := slices.Clone(second)
			spoil(first)
			if !slices.Equal(second, wanted) {
				t.Errorf("P16.1: Batch(%d, %d, 3): two answers share memory", total, size)
			}
			batches(t, total, size, 3, wanted...)
		}
	}
}

// What was refused leaves nothing behind.
func TestBatchBehindRefusals(t *testing.T) {
	for range 3 {
		batches(t, 5, 2, 2, 4, 0)
		refusesBatch(t, 5, 6, 2)
		refusesBatch(t, 5, 2, -2)
	}
}

// watched is a batch and members, each within a room that must stay as it was.
type watched struct{ batch, members, was []int }

func (w *watched) stays(t *testing.T, what string) {
	t.Helper()
	if !slices.Equal(slices.Concat(w.batch, w.members), w.was) {
		t.Errorf("P16.1: %s: what is handed in, or the room about it, is changed", what)
	}
}

// sharesNothing asks for a Shard and spoils what was handed in, then what was told.
func sharesNothing(t *testing.T, batch, members []int, who int) {
	t.Helper()
	what := fmt.Sprintf("Shard of %v, %v, for %d", short(batch), members, who)
	batchRoom, batchPart := inRoom(batch)
	memberRoom, memberPart := inRoom(members)
	w := &watched{batch: batchRoom, members: memberRoom, was: slices.Concat(batchRoom, memberRoom)}
	told, _ := data.Shard(batchPart, memberPart, who)
	w.stays(t, what)
	again, _ := data.Shard(batchPart, memberPart, who)
	wanted := slices.Clone(told)
	spoil(again)
	w.stays(t, what+", spoilt")
	if !slices.Equal(told, wanted) {
		t.Errorf("P16.1: %s: two answers share memory", what)
	}
	spoil(batchRoom)
	spoil(memberRoom)
	if !slices.Equal(told, wanted) {
		t.Errorf("P16.1: %s: it goes with what was handed in", what)
	}
}

func TestShardIsNewMemory(t *testing.T) {
	for many := range 12 {
		for _, members := range [][]int{{0}, {15}, {1, 3}, {0, 1, 2}, {2, 5, 11}, whole()} {
			for _, who := range members {
				sharesNothing(t, row(20, many), members, who)
			}
			sharesNothing(t, row(20, many), members, 4)
			sharesNothing(t, row(20, many), members, -1)
		}
		for _, members := range noMembers() {
			sharesNothing(t, row(20, many), members, 1)
		}
	}
}

// One list may be the batch and the members.
func TestOneListAsBoth(t *testing.T) {
	both := []int{1, 3, 5}
	shards(t, both, both, 3, 3)
	shards(t, both, both[1:], 5, 3)
	if !slices.Equal(both, []int{1, 3, 5}) {
		t.Errorf("P16.1: Shard of one list as both: it is changed: %v", both)
	}
}

func TestGoodLeavesWhatItIsAsked(t *testing.T) {
	for _, members := range append(noMembers(), nil, []int{7}, whole(), row(0, api.MaxWorkers+1)) {
		room, part := inRoom(members)
		was := slices.Clone(room)
		data.Good(part)
		if !slices.Equal(room, was) {
			t.Errorf("P16.1: Good of %v: it, or the room about it, is changed", short(members))
		}
	}
}
