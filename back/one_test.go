package back_test

import (
	"fmt"
	"testing"

	"carousel/api"
)

// gift is an Op of two leaves, with what a gradient of its node must give for them.
type gift struct {
	op         int
	a, b       api.Tensor
	k          api.Fix
	g          api.Tensor
	forA, forB api.Tensor
}

// none is what an Op of one node gives for B; idle is a leaf that stands by then.
var (
	none = api.Tensor{}
	idle = number(0)
)

func holdGifts(t *testing.T, gifts []gift) {
	t.Helper()
	for _, c := range gifts {
		what := fmt.Sprintf("Op %d of %v and %v by %d", c.op, c.a, c.b, c.k)
		x := laidOut(t, c.a, c.b)
		gives(t, what, x, done(t, x, c.op, 0, 1, c.k), c.g, c.forA, c.forB)
		// The node that is A may stand behind the one that is B, and others between and behind them.
		x = laidOut(t, c.b, line(7, 7, 7), c.a)
		n := done(t, x, c.op, 2, 0, c.k)
		done(t, x, 5, 1, 0, 3)
		gives(t, what, x, n, c.g, c.forA, c.forB)
	}
}

func TestALeafGivesNothing(t *testing.T) {
	x := laidOut(t, number(3), line(1, 2), square(1, 2, 3, 4))
	gives(t, "a leaf", x, 0, number(5), none, none)
	gives(t, "a leaf", x, 1, line(top, low), none, none)
	gives(t, "a leaf", x, 2, square(0, 0, 0, 0), none, none)
	done(t, x, 2, 0, 0, 0)
	gives(t, "a leaf that was used", x, 0, number(one), none, none)
}

func TestAdd(t *testing.T) {
	six := counted(1, 2, 3)
	holdGifts(t, []gift{
		{2, line(1, 2), line(3, 4), 0, line(5, -6), line(5, -6), line(5, -6)},
		{2, six, line(10, 20, 30), 0, six, six, line(5, 7, 9)},
		{2, line(10, 20, 30), six, 0, six, line(5, 7, 9), six},
		{2, six, tensor([]int{2, 1}, 1, 2), 0, six, six, tensor([]int{2, 1}, 6, 15)},
		{2, six, number(4), 0, six, six, number(21)},
		{2, number(4), six, 0, six, number(21), six},
		{2, tensor([]int{2, 1}, 1, 2), tensor([]int{1, 3}, 1, 2, 3), 0, six, tensor([]int{2, 1}, 6, 15), tensor([]int{1, 3}, 5, 7, 9)},
		{2, line(1), tensor([]int{1, 1}, 2), 0, tensor([]int{1, 1}, 9), line(9), tensor([]int{1, 1}, 9)},
		{2, number(1), number(2), 0, number(low), number(low), number(low)},
		// Folded, the sums are held one by one, in order.
		{2, line(1, 2, 3), number(4), 0, line(top, 5, -7), line(top, 5, -7), number(top - 7)},
		{2, line(1, 2, 3), number(4), 0, line(low, -5, 7), line(low, -5, 7), number(low + 7)},
	})
}

func TestSub(t *testing.T) {
	six := counted(1, 2, 3)
	holdGifts(t, []gift{
		{3, line(1, 2), line(3, 4), 0, line(5, -6), line(5, -6), line(-5, 6)},
		{3, six, line(10, 20, 30), 0, six, six, line(-5, -7, -9)},
		{3, line(10, 20, 30), six, 0, six, line(5, 7, 9), tensor([]int{2, 3}, -1, -2, -3, -4, -5, -6)},
		{3, six, number(4), 0, six, six, number(-21)},
		{3, tensor([]int{2, 1}, 1, 2), tensor([]int{1, 3}, 1, 2, 3), 0, six, tensor([]int{2, 1}, 6, 15), tensor([]int{1, 3}, -5, -7, -9)},
		{3, number(1), number(2), 0, number(low), number(low), number(top)},
		// The sign is turned ahead of the sum: Top less 1, not the turned sum of the least and 1.
		{3, line(1, 2), number(4), 0, line(low, 1), line(low, 1), number(top - 1)},
		{3, line(1, 2, 3), number(4), 0, line(top, 5, -7), line(top, 5, -7), number(low + 7)},
	})
}

func TestMul(t *testing.T) {
	six, row := counted(1, 2, 3), counted(one, 3)
	holdGifts(t, []gift{
		{4, line(2*one, 3*one), line(5*one, -7*one), 0, line(1, 10), line(5, -70), line(2, 30)},
		{4, counted(one, 2, 3), row, 0, six, tensor([]int{2, 3}, 1, 4, 9, 4, 10, 18), line(17, 29, 45)},
		{4, row, counted(one, 2, 3), 0, six, line(17, 29, 45), tensor([]int{2, 3}, 1, 4, 9, 4, 10, 18)},
		{4, counted(one, 2, 3), number(2 * one), 0, six, tensor([]int{2, 3}, 2, 4, 6, 8, 10, 12), number(91)},
		{4, tensor([]int{2, 1}, one, 2*one), tensor([]int{1, 3}, one, 2*one, 3*one), 0, six, tensor([]int{2, 1}, 14, 32), tensor([]int{1, 3}, 9, 12, 15)},
		// Each product is rounded, then they are summed.
		{4, number(3), line(half, half, half), 0, line(1, 1, 3), number(2), line(0, 0, 0)},
		{4, number(one), line(2*one, one, -one), 0, line(top, 5, 7), number(top - 7), line(top, 5, 7)},
		{4, number(top), number(low), 0, number(one), number(low), number(top)},
		{4, number(top), number(low), 0, number(-2 * one), number(top), number(low)},
	})
}

func TestScale(t *testing.T) {
	holdGifts(t, []gift{
		{5, line(1, 2), idle, 3 * one, line(5, -6), line(15, -18), none},
		{5, counted(1, 2, 3), idle, half, counted(1, 2, 3), tensor([]int{2, 3}, 0, 1, 2, 2, 2, 3), none},
		{5, line(1, 2), idle, 0, line(top, low), line(0, 0), none},
		{5, line(1, 2), idle, 1, line(one, -2*one), line(1, -2), none},
		{5, line(1, 2), idle, -one, line(low, top), line(top, -top), none},
		{5, number(7), idle, top, number(2 * one), number(top), none},
	})
}

func TestMatmul(t *testing.T) {
	holdGifts(t, []gift{
		// 2 3 by 3 2: six numbers each, so that to take the one for the other would be seen.
		{6, counted(one, 2, 3), tensor([]int{3, 2}, one, 0, 0, 2*one, 5*one, -one), 0, square(1, 10, 100, 1000),
			tensor([]int{2, 3}, 1, 20, -5, 100, 2000, -500), tensor([]int{3, 2}, 401, 4010, 502, 5020, 603, 6030)},
		{6, tensor([]int{1, 2}, 2*one, 3*one), tensor([]int{2, 1}, 5*one, 7*one), 0, tensor([]int{1, 1}, 10), tensor([]int{1, 2}, 50, 70), tensor([]int{2, 1}, 20, 30)},
		{6, tensor([]int{2, 1}, 2*one, 3*one), tensor([]int{1, 2}, 5*one, 7*one), 0, square(1, 10, 100, 1000), tensor([]int{2, 1}, 75, 7500), tensor([]int{1, 2}, 302, 3020)},
		// The exact sum is rounded once: two halves are one.
		{6, tensor([]int{2, 1}, half, half), tensor([]int{1, 2}, half, half), 0, square(1, 1, 1, 2), tensor([]int{2, 1}, 1, 2), tensor([]int{1, 2}, 1, 2)},
		{6, tensor([]int{2, 1}, top, low), tensor([]int{1, 2}, top, low), 0, square(top, top, 0, top), tensor([]int{2, 1}, -half, low), tensor([]int{1, 2}, top, -half)},
	})
}

func TestFlip(t *testing.T) {
	holdGifts(t, []gift{
		{7, counted(1, 2, 3), idle, 0, tensor([]int{3, 2}, 1, 2, 3, 4, 5, 6), tensor([]int{2, 3}, 1, 3, 5, 2, 4, 6), none},
		{7, counted(1, 1, 3), idle, 0, tensor([]int{3, 1}, 7, 8, 9), tensor([]int{1, 3}, 7, 8, 9), none},
		{7, square(1, 2, 3, 4), idle, 0, square(top, 1, low, 2), square(top, low, 1, 2), none},
	})
}

func TestSumAlongEachSide(t *testing.T) {
	a := counted(1, 2, 3, 2)
	holdGifts(t, []gift{
		{8, a, idle, 0, tensor([]int{3, 2}, 1, 2, 3, 4, 5, 6), tensor([]int{2, 3, 2}, 1, 2, 3, 4, 5, 6, 1, 2, 3, 4, 5, 6), none},
		{8, a, idle, 1, square(1, 2, 3, 4), tensor([]int{2, 3, 2}, 1, 2, 1, 2, 1, 2, 3, 4, 3, 4, 3, 4), none},
		{8, a, idle, 2, counted(1, 2, 3), tensor([]int{2, 3, 2}, 1, 1, 2, 2, 3, 3, 4, 4, 5, 5, 6, 6), none},
		{8, counted(1, 2, 3), idle, 0, line(1, 2, 3), tensor([]int{2, 3}, 1, 2, 3, 1, 2, 3), none},
		{8, counted(1, 2, 3), idle, 1, line(1, 2), tensor([]int{2, 3}, 1, 1, 1, 2, 2, 2), none},
		{8, square(1, 2, 3, 4), idle, 0, line(top, low), square(top, low, top, low), none},
		{8, square(1, 2, 3, 4), idle, 1, line(top, low), square(top, top, low, low), none},
		{8, line(1, 2, 3), idle, 0, number(-4), line(-4, -4, -4), none},
		{8, line(1), idle, 0, number(5), line(5), none},
		{8, counted(1, 2, 1), idle, 1, line(5, 6), tensor([]int{2, 1}, 5, 6), none},
		{8, counted(1, 1, 2, 1, 2), idle, 1, tensor([]int{1, 1, 2}, 5, 6), tensor([]int{1, 2, 1, 2}, 5, 6, 5, 6), none},
		{8, counted(1, 1, 2, 1, 2), idle, 3, tensor([]int{1, 2, 1}, 5, 6), tensor([]int{1, 2, 1, 2}, 5, 5, 6, 6), none},
	})
}

func TestAll(t *testing.T) {
	holdGifts(t, []gift{
		{9, counted(1, 2, 3), idle, 0, number(7), filled(7, 2, 3), none},
		{9, number(5), idle, 0, number(-3), number(-3), none},
		{9, line(1, 2), idle, 0, number(low), line(low, low), none},
		{9, counted(1, 4096), idle, 0, number(top), filled(top, 4096), none},
	})
}

// A quotient between two numbers is the nearer one, of two as near the even one.
func TestMean(t *testing.T) {
	for g, part := range map[api.Fix]api.Fix{
		0: 0, 1: 0, 2: 0, 3: 0, 4: 1, 6: 1, 8: 1, 9: 2, 10: 2, 15: 2, 16: 3, 21: 4, -2: 0, -3: 0, -4: -1, -8: -1, -9: -2, -10: -2, -15: -2, -16: -3,
		6 * one: one, one: 715827883, top: 1537228672809129301, low: -1537228672809129301,
	} {
		holdGifts(t, []gift{{10, counted(1, 2, 3), idle, 0, number(g), filled(part, 2, 3), none}})
	}
	holdGifts(t, []gift{
		{10, number(5), idle, 0, number(top), number(top), none},
		{10, line(5), idle, 0, number(low), line(low), none},
		{10, line(top, low), idle, 0, number(low), line(low/2, low/2), none},
		{10, counted(1, 4096), idle, 0, number(one), filled(1<<20, 4096), none},
		{10, counted(1, 4096), idle, 0, number(2048), filled(0, 4096), none},
		{10, counted(1, 4096), idle, 0, number(2049), filled(1, 4096), none},
	})
}

func TestBend(t *testing.T) {
	a, g := line(-2*one, -one, -1, 0, 1, one, 2*one), filled(80, 7)
	holdGifts(t, []gift{
		{11, a, idle, 1, g, line(0, 0, 0, 0, 80, 80, 80), none},
		{11, a, idle, 2, g, line(10, 10, 10, 10, 80, 80, 80), none},
		{11, a, idle, 3, g, line(0, 0, 80, 80, 80, 0, 0), none},
		{11, a, idle, 4, g, line(-80, -80, -80, 0, 80, 80, 80), none},
		{11, a, idle, 5, g, line(0, 0, 40, 40, 40, 0, 0), none},
		// A leak's slope rounds: 12 by 8 is 2, 4 by 8 is 0.
		{11, line(-1, -1), idle, 2, line(12, 4), line(2, 0), none},
		{11, number(low), idle, 4, number(low), number(top), none},
		{11, square(low, 1, 2, top), idle, 1, square(1, 2, 3, 4), square(0, 2, 3, 4), none},
	})
}

func TestRow(t *testing.T) {
	five := counted(one, 1, 5)
	holdGifts(t, []gift{
		{12, counted(one, 1, 3), counted(one, 1, 1, 2), 1, tensor([]int{1, 2}, 10, 100), tensor([]int{1, 3}, 10, 120, 200), tensor([]int{1, 1, 2}, 210, 320)},
		// By steps of 2, where windows meet in no number.
		{12, five, counted(one, 1, 1, 2), 2, tensor([]int{1, 2}, 10, 100), tensor([]int{1, 5}, 10, 20, 100, 200, 0), tensor([]int{1, 1, 2}, 310, 420)},
		// By steps of 2, where they do.
		{12, five, counted(one, 1, 1, 3), 2, tensor([]int{1, 2}, 10, 100), tensor([]int{1, 5}, 10, 20, 130, 200, 300), tensor([]int{1, 1, 3}, 310, 420, 530)},
		// By steps of 3 the last number is left over, by steps of 4 there are gaps, by 64 all but the first are.
		{12, five, counted(one, 1, 1, 1), 3, tensor([]int{1, 2}, 10, 100), tensor([]int{1, 5}, 10, 0, 0, 100, 0), tensor([]int{1, 1, 1}, 410)},
		{12, five, counted(one, 1, 1, 1), 4, tensor([]int{1, 2}, 10, 100), tensor([]int{1, 5}, 10, 0, 0, 0, 100), tensor([]int{1, 1, 1}, 510)},
		{12, five, counted(one, 1, 1, 2), 64, tensor([]int{1, 1}, 10), tensor([]int{1, 5}, 10, 20, 0, 0, 0), tensor([]int{1, 1, 2}, 10, 20)},
		// Two rows, two windows.
		{12, counted(one, 2, 3), counted(one, 2, 2, 1), 2, square(1, 10, 100, 1000), tensor([]int{2, 3}, 301, 0, 3010, 402, 0, 4020), tensor([]int{2, 2, 1}, 31, 64, 3100, 6400)},
		// The exact sum is rounded once.
		{12, filled(half, 1, 3), filled(half, 1, 1, 2), 1, tensor([]int{1, 2}, 1, 1), tensor([]int{1, 3}, 0, 1, 0), tensor([]int{1, 1, 2}, 1, 1)},
	})
}

func TestPool(t *testing.T) {
	holdGifts(t, []gift{
		{13, tensor([]int{1, 4}, 3, 1, -4, -2), idle, 2, tensor([]int{1, 2}, 5, 6), tensor([]int{1, 4}, 5, 0, 0, 6), none},
		// The last number is left over, though it is the greatest.
		{13, tensor([]int{1, 5}, 3, 1, -4, -2, 9), idle, 2, tensor([]int{1, 2}, 5, 6), tensor([]int{1, 5}, 5, 0, 0, 6, 0), none},
		{13, tensor([]int{2, 3}, 1, 2, 9, 5, 4, 9), idle, 2, tensor([]int{2, 1}, 7, 8), tensor([]int{2, 3}, 0, 7, 0, 8, 0, 0), none},
		// Of alike ones the first has it all.
		{13, tensor([]int{1, 4}, 2, 2, 0, 0), idle, 2, tensor([]int{1, 2}, 5, 6), tensor([]int{1, 4}, 5, 0, 6, 0), none},
		{13, tensor([]int{1, 3}, 1, 4, 4), idle, 3, tensor([]int{1, 1}, 5), tensor([]int{1, 3}, 0, 5, 0), none},
		{13, filled(low, 2, 2), idle, 2, tensor([]int{2, 1}, top, low), square(top, 0, low, 0), none},
		{13, square(4, 3, 2, 1), idle, 1, square(5, 6, 7, 8), square(5, 6, 7, 8), none},
	})
}

func TestShape(t *testing.T) {
	holdGifts(t, []gift{
		{14, counted(1, 2, 3), idle, 0, line(6, 5, 4, 3, 2, 1), tensor([]int{2, 3}, 6, 5, 4, 3, 2, 1), none},
		{14, counted(1, 2, 1, 2, 1), idle, 0, line(1, top, low, 4), tensor([]int{2, 1, 2, 1}, 1, top, low, 4), none},
		{14, number(5), idle, 0, line(-6), number(-6), none},
		{14, line(1, 2), idle, 0, line(3, 4), line(3, 4), none},
	})
}

// A node that is both A and B is given for both.
func TestBothOfOneNode(t *testing.T) {
	x := laidOut(t, line(0), square(one, 2*one, 3*one, 4*one))
	g := square(1, 10, 100, 1000)
	minus := square(-1, -10, -100, -1000)
	gives(t, "a node and itself", x, done(t, x, 2, 1, 1, 0), g, g, g)
	gives(t, "a node less itself", x, done(t, x, 3, 1, 1, 0), g, g, minus)
	gives(t, "a node times itself", x, done(t, x, 4, 1, 1, 0), g, square(1, 20, 300, 4000), square(1, 20, 300, 4000))
	gives(t, "a matrix by itself", x, done(t, x, 6, 1, 1, 0), g, square(21, 43, 2100, 4300), square(301, 3010, 402, 4020))
}

// What One tells hangs on a node and on those that it is of, on no other.
func TestOneOfANodeAmongOthers(t *testing.T) {
	x := laidOut(t, line(one, 2*one), line(3*one, 4*one))
	n := done(t, x, 4, 0, 1, 0)
	m := done(t, x, 4, n, 0, 0)
	done(t, x, 9, m, 0, 0)
	done(t, x, 2, n, n, 0)
	gives(t, "the first product", x, n, line(1, 10), line(3, 40), line(1, 20))
	gives(t, "the second, of the first", x, m, line(1, 10), line(1, 20), line(3, 80))
	gives(t, "the first once more", x, n, line(1, 10), line(3, 40), line(1, 20))
}
