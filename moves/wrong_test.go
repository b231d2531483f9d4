package moves_test

import (
	"math"
	"testing"

	"tappet/api"
)

// P15.1: what is refused.

// noPlaces are sources that are no places, or no sources at all.
func noPlaces() []api.Src {
	l := []api.Src{
		{Kind: 0, N: -1}, {Kind: 3, N: -1}, {Kind: 0, N: math.MinInt}, {Kind: 3, N: math.MinInt},
		{Kind: 0, W: 1}, {Kind: 3, W: 1}, {Kind: 0, W: 1 << 63}, {Kind: 3, W: 1 << 63}, {Kind: 0, N: 5, W: 5}, {Kind: 0, N: -1, W: 1},
	}
	for _, kind := range []int{1, 2, -1, 4, -2, 5, -3, 256, 1 << 32, 1<<32 + 3, math.MinInt, math.MaxInt} {
		for _, n := range []int{0, 1, 8, -1} {
			l = append(l, api.Src{Kind: kind, N: n}, api.Src{Kind: kind, N: n, W: 1})
		}
	}
	return l
}

func TestScratchIsNoPlace(t *testing.T) {
	for _, s := range noPlaces() {
		refuses(t, "nil", s)
		refuses(t, "an empty list", s, mvs()...)
		refuses(t, "one move", s, mv(a, b))
		refuses(t, "nothing to be moved", s, mv(a, a))
		refuses(t, "no ring", s, mv(a, b), mv(b, c))
		refuses(t, "a ring", s, mv(a, b), mv(b, a))
		refuses(t, "one goal twice", s, mv(a, b), mv(a, c))
		refuses(t, "as a source", s, mv(a, s))
		refuses(t, "as a goal", s, mv(s, a))
	}
}

func TestGoalIsNoPlace(t *testing.T) {
	for _, s := range noPlaces() {
		refuses(t, "alone", x, mv(s, a))
		refuses(t, "from a word", x, mv(s, num(7)))
		refuses(t, "from itself", x, mv(s, s))
		refuses(t, "the first", x, mv(s, a), mv(b, c), mv(d, e))
		refuses(t, "in between", x, mv(b, c), mv(s, a), mv(d, e))
		refuses(t, "the last", x, mv(b, c), mv(d, e), mv(s, a))
		refuses(t, "beside a ring", x, mv(a, b), mv(b, a), mv(s, a))
		refuses(t, "in a ring", x, mv(a, s), mv(s, a))
		refuses(t, "twice", x, mv(s, a), mv(s, b))
	}
}

func TestOneGoalTwice(t *testing.T) {
	for _, goal := range []api.Src{a, h, cell(0), cell(4095), reg(math.MaxInt), cell(math.MaxInt), reg(1 << 32)} {
		refuses(t, "from two sources", x, mv(goal, b), mv(goal, c))
		refuses(t, "from one source", x, mv(goal, b), mv(goal, b))
		refuses(t, "from words", x, mv(goal, num(1)), mv(goal, num(2)))
		refuses(t, "from the receiver", x, mv(goal, self), mv(goal, self))
		refuses(t, "first from itself", x, mv(goal, goal), mv(goal, b))
		refuses(t, "then from itself", x, mv(goal, b), mv(goal, goal))
		refuses(t, "both from itself", x, mv(goal, goal), mv(goal, goal))
		refuses(t, "one apart", x, mv(goal, b), mv(c, d), mv(goal, e))
		refuses(t, "beside a ring", x, mv(b, c), mv(goal, e), mv(c, b), mv(goal, d))
		refuses(t, "in a ring", x, mv(goal, b), mv(b, goal), mv(goal, c))
		refuses(t, "three times", x, mv(goal, b), mv(goal, c), mv(goal, d))
		refuses(t, "the first two", x, mv(goal, b), mv(goal, c), mv(d, e), mv(f, g))
		refuses(t, "the last two", x, mv(d, e), mv(f, g), mv(goal, b), mv(goal, c))
	}
	refuses(t, "two goals twice", x, mv(a, b), mv(c, d), mv(a, d), mv(c, b))
	refuses(t, "twice and twice beside others", x, mv(a, b), mv(c, d), mv(e, f), mv(a, d), mv(c, b))
	for _, at := range []int{0, 1, 500, 998} {
		l := chain(100, 1000)
		l[999].D = l[at].D
		refuses(t, "far apart", x, l...)
		l[999].S = l[999].D
		refuses(t, "far apart, from itself", x, l...)
	}
}

func TestScratchIsGoal(t *testing.T) {
	for _, s := range []api.Src{x, a, cell(0), cell(8), reg(math.MaxInt), cell(math.MaxInt)} {
		refuses(t, "alone", s, mv(s, b))
		refuses(t, "from a word", s, mv(s, num(7)))
		refuses(t, "the first", s, mv(s, b), mv(c, d))
		refuses(t, "the last", s, mv(c, d), mv(s, b))
		refuses(t, "beside a ring", s, mv(c, d), mv(s, b), mv(d, c))
		refuses(t, "in a ring", s, mv(s, b), mv(b, s))
		refuses(t, "from itself", s, mv(s, s))
		refuses(t, "from itself, in between", s, mv(c, d), mv(s, s), mv(d, c))
		refuses(t, "twice", s, mv(s, b), mv(s, c))
	}
}

func TestScratchIsSource(t *testing.T) {
	for _, s := range []api.Src{x, a, cell(0), cell(8), reg(math.MaxInt), cell(math.MaxInt)} {
		refuses(t, "alone", s, mv(b, s))
		refuses(t, "of a cell", s, mv(cell(1), s))
		refuses(t, "the first", s, mv(b, s), mv(c, d))
		refuses(t, "the last", s, mv(c, d), mv(b, s))
		refuses(t, "beside a ring", s, mv(c, d), mv(b, s), mv(d, c))
		refuses(t, "at the end of a chain", s, mv(b, s), mv(c, b), mv(d, c))
		refuses(t, "twice", s, mv(b, s), mv(c, s))
	}
	l := chain(100, 1000)
	refuses(t, "at the beginning of a long chain", l[0].S, l...)
	refuses(t, "at the end of a long chain", l[999].D, l...)
	refuses(t, "in a long chain", l[500].D, l...)
}

func TestWrongKinds(t *testing.T) {
	for _, kind := range []int{-1, 4, -2, 5, -3, 255, 256, 1 << 32, -1 << 32, 1<<32 + 1, math.MinInt, math.MaxInt} {
		for _, bad := range []api.Src{{Kind: kind}, {Kind: kind, N: 1}, {Kind: kind, W: 1}, {Kind: kind, N: -1, W: 3}} {
			refuses(t, "alone", x, mv(a, bad))
			refuses(t, "to a cell", x, mv(cell(0), bad))
			refuses(t, "the first", x, mv(a, bad), mv(b, c), mv(d, e))
			refuses(t, "in between", x, mv(b, c), mv(a, bad), mv(d, e))
			refuses(t, "the last", x, mv(b, c), mv(d, e), mv(a, bad))
			refuses(t, "beside a ring", x, mv(b, c), mv(a, bad), mv(c, b))
			refuses(t, "twice", x, mv(a, bad), mv(b, bad))
			refuses(t, "to itself", x, mv(bad, bad))
		}
	}
	l := chain(100, 1000)
	l[999].S.Kind = 4
	refuses(t, "behind many", x, l...)
}

func TestSeveralFaults(t *testing.T) {
	wrong := api.Src{Kind: 4}
	refuses(t, "scratch and goal", self, mv(self, a))
	refuses(t, "scratch, goal and source", wrong, mv(wrong, wrong))
	refuses(t, "scratch, and one goal twice", num(7), mv(a, b), mv(a, c))
	refuses(t, "goal, and one goal twice", x, mv(a, b), mv(num(7), c), mv(a, d))
	refuses(t, "one goal twice, and kind", x, mv(a, wrong), mv(a, b))
	refuses(t, "scratch as a goal and as a source", x, mv(x, a), mv(b, x))
	refuses(t, "scratch as a goal, and kind", x, mv(x, wrong))
	refuses(t, "all", wrong, mv(a, wrong), mv(a, b), mv(self, c), mv(wrong, wrong))
}

// Right ones, close by what is refused.
func TestJustRight(t *testing.T) {
	answers(t, "goals of one number", x, mvs(mv(a, b), mv(cell(0), b)), mvs(mv(a, b), mv(cell(0), b)))
	answers(t, "scratch of a goal's number", cell(0), mvs(mv(a, b)), mvs(mv(a, b)))
	answers(t, "scratch of a source's number", cell(1), mvs(mv(a, b)), mvs(mv(a, b)))
	answers(t, "scratch beside goals", reg(1), mvs(mv(reg(0), reg(3)), mv(reg(2), reg(4))), mvs(mv(reg(0), reg(3)), mv(reg(2), reg(4))))
	answers(t, "each kind", x, mvs(mv(a, b), mv(c, num(7)), mv(d, self), mv(e, cell(0))), mvs(mv(a, b), mv(c, num(7)), mv(d, self), mv(e, cell(0))))
	answers(t, "scratch that nobody needs", cell(math.MaxInt), nil, nil)
}
