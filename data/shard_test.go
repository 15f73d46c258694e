package data_test

import (
	"math"
	"math/rand"
	"slices"
	"testing"

	"carousel/api"
	"carousel/data"
)

func TestShardExample(t *testing.T) {
	batch, _ := data.Batch(5, 2, 2)
	shards(t, batch, []int{1, 3}, 3, 0)
	shards(t, batch, []int{1, 3}, 1, 4)
}

func TestShardOfNoExample(t *testing.T) {
	for _, batch := range [][]int{nil, {}, make([]int, 3)[:0]} {
		for bits := 1; bits < 1<<api.MaxWorkers; bits += 77 {
			for _, who := range picked(bits) {
				shards(t, batch, picked(bits), who)
			}
		}
		shards(t, batch, []int{0}, 0)
		shards(t, batch, whole(), 15)
	}
}

func TestShardOfFewerThanMembers(t *testing.T) {
	members := []int{1, 3, 5}
	shards(t, []int{9}, members, 1, 9)
	shards(t, []int{9}, members, 3)
	shards(t, []int{9}, members, 5)
	shards(t, []int{9, 8}, members, 1, 9)
	shards(t, []int{9, 8}, members, 3, 8)
	shards(t, []int{9, 8}, members, 5)
	for i := range api.MaxWorkers {
		for who := range api.MaxWorkers {
			wanted := []int{100 + who}
			if who >= i {
				wanted = nil
			}
			shards(t, row(100, i), whole(), who, wanted...)
		}
	}
}

func TestShardOfAsManyAsMembers(t *testing.T) {
	shards(t, []int{9}, []int{4}, 4, 9)
	shards(t, []int{9, 8, 7}, []int{0, 14, 15}, 0, 9)
	shards(t, []int{9, 8, 7}, []int{0, 14, 15}, 14, 8)
	shards(t, []int{9, 8, 7}, []int{0, 14, 15}, 15, 7)
	for who := range api.MaxWorkers {
		shards(t, row(100, 16), whole(), who, 100+who)
	}
}

func TestShardOfMoreThanMembers(t *testing.T) {
	shards(t, []int{9, 8, 7, 6, 5}, []int{1, 3}, 1, 9, 7, 5)
	shards(t, []int{9, 8, 7, 6, 5}, []int{1, 3}, 3, 8, 6)
	shards(t, []int{9, 8, 7, 6, 5}, []int{2, 5, 11}, 2, 9, 6)
	shards(t, []int{9, 8, 7, 6, 5}, []int{2, 5, 11}, 5, 8, 5)
	shards(t, []int{9, 8, 7, 6, 5}, []int{2, 5, 11}, 11, 7)
	shards(t, []int{9, 8, 7, 6}, []int{2, 5, 11}, 2, 9, 6)
	shards(t, []int{9, 8, 7, 6}, []int{2, 5, 11}, 5, 8)
	for who := range api.MaxWorkers {
		shards(t, row(0, 17), []int{who}, who, row(0, 17)...)
		if who > 0 {
			shards(t, row(0, 17), whole(), who, who)
		}
	}
	shards(t, row(0, 17), whole(), 0, 0, 16)
}

// Neither the numbers of a batch nor how many they are is asked for.
func TestShardOfAnyBatch(t *testing.T) {
	shards(t, []int{-7}, []int{2}, 2, -7)
	strange := []int{math.MinInt, math.MaxInt, -1, -1, 0, 256, 1 << 40, 0, -1}
	shards(t, strange, []int{15}, 15, strange...)
	shards(t, strange, []int{0, 15}, 0, math.MinInt, -1, 0, 1<<40, -1)
	shards(t, strange, []int{0, 15}, 15, math.MaxInt, -1, 256, 0)
	shards(t, slices.Repeat([]int{5}, 6), []int{0, 1, 2, 3}, 1, 5, 5)
	for _, many := range []int{api.MaxData, api.MaxData + 1, 20000} {
		var wanted []int
		for n := 11; n < many; n += 16 {
			wanted = append(wanted, -n)
		}
		falling := row(0, many)
		for i := range falling {
			falling[i] = -i
		}
		shards(t, falling, whole(), 11, wanted...)
	}
}

// dealt gives the batch out one by one, to one member behind another.
func dealt(batch []int, many int) [][]int {
	hands := make([][]int, many)
	next := 0
	for _, n := range batch {
		hands[next] = append(hands[next], n)
		if next++; next == many {
			next = 0
		}
	}
	return hands
}

// Together the members have each example once.
func TestShardsAreTheBatch(t *testing.T) {
	r := rand.New(rand.NewSource(2))
	for range 4000 {
		members := picked(r.Intn(1<<api.MaxWorkers-1) + 1)
		batch := make([]int, r.Intn(60))
		for i := range batch {
			batch[i] = int(r.Uint64()) >> r.Intn(64)
		}
		hands := dealt(batch, len(members))
		for i, who := range members {
			shards(t, batch, members, who, hands[i]...)
		}
	}
}

// Of each choice of members each member has its own.
func TestShardOfEachChoice(t *testing.T) {
	batch := row(500, 21)
	for bits := 1; bits < 1<<api.MaxWorkers; bits++ {
		members := picked(bits)
		hands := dealt(batch, len(members))
		for i, who := range members {
			shards(t, batch, members, who, hands[i]...)
		}
	}
}

func someBatches() [][]int { return [][]int{nil, {4, 0}, {1, 1, 1}, row(0, 40)} }

func TestShardOfNoMembers(t *testing.T) {
	for _, batch := range someBatches() {
		for _, members := range append(noMembers(), nil, []int{}, make([]int, 2)[:0]) {
			for _, who := range append(farOff(), 0, 1, 2, 3, 15, 16, 17) {
				refusesShard(t, batch, members, who)
			}
		}
		// One that is in them all the same is no better.
		for _, m := range append(farOff(), 16, 17) {
			refusesShard(t, batch, []int{m}, m)
			refusesShard(t, batch, append(whole(), m), m)
			refusesShard(t, batch, append(whole(), m), 0)
			refusesShard(t, batch, append([]int{m}, whole()...), m)
		}
	}
}

func TestShardOfWhoIsNone(t *testing.T) {
	for _, batch := range someBatches() {
		for bits := 1; bits < 1<<api.MaxWorkers; bits += 31 {
			members := picked(bits)
			for who := range api.MaxWorkers {
				if bits>>who&1 == 0 {
					refusesShard(t, batch, members, who)
				}
			}
			for _, who := range append(farOff(), 16, 17, 32) {
				refusesShard(t, batch, members, who)
			}
		}
		// A place among the members is no member.
		refusesShard(t, batch, []int{1, 3}, 0)
		refusesShard(t, batch, []int{5}, 0)
		refusesShard(t, batch, []int{1, 3}, 2)
	}
}

// Spare room behind the members is none of them.
func TestShardLeavesSpareRoom(t *testing.T) {
	room := []int{1, 3, 5, 4}
	shards(t, []int{9, 8, 7}, room[:2], 3, 8)
	shards(t, []int{9, 8, 7}, room[:3], 3, 8)
	refusesShard(t, []int{9, 8, 7}, room[:2], 5)
	refusesShard(t, []int{9, 8, 7}, room, 3)
	batch := row(0, 9)
	shards(t, batch[:3], room[:2], 1, 0, 2)
}
