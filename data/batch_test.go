package data_test

import (
	"math"
	"math/big"
	"math/rand"
	"testing"

	"carousel/api"
)

func TestBatchExample(t *testing.T) {
	batches(t, 5, 2, 2, 4, 0)
}

func TestBatchOfFewExamples(t *testing.T) {
	for step := range int64(6) {
		batches(t, 1, 1, step, 0)
		batches(t, 2, 2, step, 0, 1)
	}
	batches(t, 2, 1, 0, 0)
	batches(t, 2, 1, 1, 1)
	batches(t, 2, 1, 2, 0)
	batches(t, 3, 2, 0, 0, 1)
	batches(t, 3, 2, 1, 2, 0)
	batches(t, 3, 2, 2, 1, 2)
	batches(t, 3, 2, 3, 0, 1)
	batches(t, 5, 3, 1, 3, 4, 0)
	batches(t, 5, 3, 3, 4, 0, 1)
	batches(t, 5, 4, 1, 4, 0, 1, 2)
	batches(t, 5, 4, 2, 3, 4, 0, 1)
	batches(t, 6, 3, 1, 3, 4, 5)
	batches(t, 6, 3, 2, 0, 1, 2)
	batches(t, 6, 4, 1, 4, 5, 0, 1)
	batches(t, 7, 3, 2, 6, 0, 1)
	batches(t, 10, 7, 1, 7, 8, 9, 0, 1, 2, 3)
}

func TestBatchOfMost(t *testing.T) {
	batches(t, api.MaxData, 1, 255, 255)
	batches(t, api.MaxData, 1, 256, 0)
	batches(t, api.MaxData, 1, 257, 1)
	batches(t, api.MaxData, 3, 85, 255, 0, 1)
	batches(t, api.MaxData, 128, 1, row(128, 128)...)
	batches(t, api.MaxData, 255, 0, row(0, 255)...)
	batches(t, api.MaxData, 255, 1, append([]int{255}, row(0, 254)...)...)
	batches(t, api.MaxData, 255, 2, append([]int{254, 255}, row(0, 253)...)...)
	batches(t, api.MaxData-1, 254, 1, append([]int{254}, row(0, 253)...)...)
	for _, step := range []int64{0, 1, 2, 77, math.MaxInt64} {
		batches(t, api.MaxData, 256, step, row(0, 256)...)
		batches(t, api.MaxData-1, 255, step, row(0, 255)...)
	}
}

// By hand: 2^63 - 1 is 0 modulo 7, 1 modulo 3, 2 modulo 5, 7 modulo 10 and 255 modulo 256.
func TestGreatestStep(t *testing.T) {
	const greatest = math.MaxInt64
	batches(t, 1, 1, greatest, 0)
	batches(t, 2, 1, greatest, 1)
	batches(t, 3, 1, greatest, 1)
	batches(t, 3, 2, greatest, 2, 0)
	batches(t, 5, 3, greatest, 1, 2, 3)
	batches(t, 5, 3, greatest-1, 3, 4, 0)
	batches(t, 7, 3, greatest, 0, 1, 2)
	batches(t, 7, 3, greatest-1, 4, 5, 6)
	batches(t, 10, 9, greatest, 3, 4, 5, 6, 7, 8, 9, 0, 1)
	batches(t, 256, 255, greatest, row(1, 255)...)
	batches(t, 256, 2, greatest, 254, 255)
	batches(t, 256, 3, greatest, 253, 254, 255)
	// Multiplied in 64 bits, or in 32, these would wrap round.
	batches(t, 3, 2, 1<<62, 2, 0)
	batches(t, 3, 2, 1<<31, 1, 2)
	batches(t, 3, 2, 1<<30, 2, 0)
	batches(t, 3, 1, 1<<32, 1)
	batches(t, 5, 2, 1<<62, 3, 4)
	batches(t, 5, 4, 1<<62, 1, 2, 3, 4)
}

// Step by step the batches go on where the last one ended, round and round.
func TestBatchesInARow(t *testing.T) {
	for total := 1; total <= 40; total++ {
		for size := 1; size <= total; size++ {
			next := 0
			for step := range int64(90) {
				wanted := make([]int, size)
				for i := range wanted {
					wanted[i] = next
					if next++; next == total {
						next = 0
					}
				}
				batches(t, total, size, step, wanted...)
			}
		}
	}
}

// placesOf tells the chapter's words in whole numbers without bounds.
func placesOf(total, size int, step int64) []int {
	l := make([]int, size)
	for i := range l {
		at := new(big.Int).Mul(big.NewInt(step), big.NewInt(int64(size)))
		at.Add(at, big.NewInt(int64(i)))
		l[i] = int(at.Mod(at, big.NewInt(int64(total))).Int64())
	}
	return l
}

// Each number of examples, with the sizes at its ends, at steps that are great.
func TestGreatSteps(t *testing.T) {
	for total := 1; total <= api.MaxData; total++ {
		for _, size := range []int{1, 2, 3, total/2 + 1, total - 1, total} {
			if size < 1 || size > total {
				continue
			}
			// The greatest that may be multiplied in 64 bits, and one more.
			edge := math.MaxInt64 / int64(max(size, 2))
			for _, step := range []int64{1<<31 - 1, 1 << 32, edge, edge + 1, math.MaxInt64 - 1, math.MaxInt64} {
				batches(t, total, size, step, placesOf(total, size, step)...)
			}
		}
	}
}

func TestStrewnBatches(t *testing.T) {
	r := rand.New(rand.NewSource(1))
	for range 6000 {
		total := r.Intn(api.MaxData) + 1
		size := r.Intn(total) + 1
		step := r.Int63() >> r.Intn(63)
		batches(t, total, size, step, placesOf(total, size, step)...)
	}
}

func TestNoTotal(t *testing.T) {
	for _, total := range append(farOff(), 0) {
		for _, size := range []int{1, 2, 3, 256, total} {
			refusesBatch(t, total, size, 0)
			refusesBatch(t, total, size, 9)
			refusesBatch(t, total, size, math.MaxInt64)
		}
	}
	batches(t, 1, 1, 0, 0)
	batches(t, 256, 1, 0, 0)
}

func TestNoSize(t *testing.T) {
	for _, total := range []int{1, 2, 5, 100, 255, 256} {
		for _, size := range append(farOff(), 0, total+1, total+2, 2*total, -total) {
			refusesBatch(t, total, size, 0)
			refusesBatch(t, total, size, 9)
			refusesBatch(t, total, size, math.MaxInt64)
		}
		batches(t, total, 1, 0, 0)
		batches(t, total, total, 0, row(0, total)...)
	}
}

func TestNoStep(t *testing.T) {
	for _, step := range []int64{-1, -2, -5, -256, -1<<31 - 1, -1 << 32, -1<<32 + 1, -1<<62 + 5, math.MinInt64, math.MinInt64 + 1} {
		for _, total := range []int{1, 2, 5, 256} {
			refusesBatch(t, total, 1, step)
			refusesBatch(t, total, total, step)
		}
		batches(t, 5, 2, 0, 0, 1)
	}
}

// Where two are wrong, or all three, it is the same error.
func TestSeveralWrong(t *testing.T) {
	for _, total := range []int{-1, 0, 257, math.MaxInt} {
		for _, size := range []int{-1, 0, 258, math.MinInt} {
			for _, step := range []int64{0, -1, math.MinInt64} {
				refusesBatch(t, total, size, step)
			}
		}
		refusesBatch(t, total, 1, -1)
	}
	for _, size := range []int{-1, 0, 6, 256} {
		refusesBatch(t, 5, size, -1)
	}
}
