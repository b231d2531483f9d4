package moves_test

import (
	"slices"
	"testing"

	"tappet/api"
	"tappet/moves"
)

// The chapter's examples.

func TestExamples(t *testing.T) {
	answers(t, "a and b", c, mvs(mv(a, b), mv(b, a)), mvs(mv(c, a), mv(a, b), mv(b, c)))
	answers(t, "the word 7", c, mvs(mv(a, b), mv(b, num(7))), mvs(mv(a, b), mv(b, num(7))))
	resolves(t, "a and b", mvs(mv(a, b), mv(b, a)), mv(x, a), mv(a, b), mv(b, x))
	resolves(t, "the word 7", mvs(mv(a, b), mv(b, num(7))), mv(a, b), mv(b, num(7)))
	resolves(t, "the word 7 first", mvs(mv(b, num(7)), mv(a, b)), mv(a, b), mv(b, num(7)))
}

// P15.1: moves that need no scratch.

func TestNone(t *testing.T) {
	resolves(t, "nil", nil)
	resolves(t, "an empty list", mvs())
}

func TestOne(t *testing.T) {
	resolves(t, "from a place", mvs(mv(a, b)), mv(a, b))
	resolves(t, "from a cell", mvs(mv(a, cell(0))), mv(a, cell(0)))
	resolves(t, "to a cell", mvs(mv(cell(0), a)), mv(cell(0), a))
	resolves(t, "from a word", mvs(mv(a, num(7))), mv(a, num(7)))
	resolves(t, "from the receiver", mvs(mv(a, self)), mv(a, self))
}

func TestChain(t *testing.T) {
	up := mvs(mv(b, a), mv(c, b), mv(d, c))
	down := mvs(mv(d, c), mv(c, b), mv(b, a))
	resolves(t, "from its beginning", up, down...)
	resolves(t, "from its end", down, down...)
	resolves(t, "mixed", mvs(mv(c, b), mv(b, a), mv(d, c)), down...)
	resolves(t, "mixed otherwise", mvs(mv(c, b), mv(d, c), mv(b, a)), down...)
	resolves(t, "of two", mvs(mv(b, a), mv(c, b)), mv(c, b), mv(b, a))
	resolves(t, "behind a word", mvs(mv(a, num(7)), mv(b, a), mv(c, b)), mv(c, b), mv(b, a), mv(a, num(7)))
	resolves(t, "behind the receiver", mvs(mv(a, self), mv(b, a), mv(c, b)), mv(c, b), mv(b, a), mv(a, self))
	for _, n := range []int{4, 5, 16, 100, 1000} {
		long := chain(100, n)
		resolves(t, "long", long, backwards(long)...)
		resolves(t, "long, from its end", backwards(long), backwards(long)...)
	}
}

func TestTwoChains(t *testing.T) {
	resolves(t, "one behind the other", mvs(mv(b, a), mv(c, b), mv(e, d), mv(f, e)), mv(c, b), mv(b, a), mv(f, e), mv(e, d))
	resolves(t, "in one another", mvs(mv(b, a), mv(e, d), mv(c, b), mv(f, e)), mv(c, b), mv(b, a), mv(f, e), mv(e, d))
	resolves(t, "in one another, the ends first", mvs(mv(f, e), mv(c, b), mv(e, d), mv(b, a)), mv(f, e), mv(c, b), mv(e, d), mv(b, a))
	resolves(t, "that part", mvs(mv(b, a), mv(c, b), mv(d, b), mv(e, c), mv(f, d)), mv(e, c), mv(c, b), mv(f, d), mv(d, b), mv(b, a))
}

func TestOneSource(t *testing.T) {
	resolves(t, "a place", mvs(mv(b, a), mv(c, a), mv(d, a)), mv(b, a), mv(c, a), mv(d, a))
	resolves(t, "a word", mvs(mv(b, num(7)), mv(c, num(7)), mv(d, num(7))), mv(b, num(7)), mv(c, num(7)), mv(d, num(7)))
	resolves(t, "the receiver", mvs(mv(b, self), mv(c, self)), mv(b, self), mv(c, self))
	resolves(t, "that is a goal", mvs(mv(a, d), mv(b, a), mv(c, a)), mv(b, a), mv(c, a), mv(a, d))
	resolves(t, "that is a goal in between", mvs(mv(b, a), mv(a, d), mv(c, a)), mv(b, a), mv(c, a), mv(a, d))
	resolves(t, "that is a goal at the end", mvs(mv(b, a), mv(c, a), mv(a, d)), mv(b, a), mv(c, a), mv(a, d))
	resolves(t, "that a word takes the place of", mvs(mv(a, num(9)), mv(b, a), mv(c, a), mv(d, a)), mv(b, a), mv(c, a), mv(d, a), mv(a, num(9)))
}

func TestWordsAndReceiver(t *testing.T) {
	resolves(t, "alone", mvs(mv(a, num(3)), mv(b, self), mv(c, num(5)), mv(d, num(3))), mv(a, num(3)), mv(b, self), mv(c, num(5)), mv(d, num(3)))
	resolves(t, "beside places", mvs(mv(a, num(3)), mv(b, a), mv(c, self), mv(d, c)), mv(b, a), mv(a, num(3)), mv(d, c), mv(c, self))
	resolves(t, "beside a ring", mvs(mv(a, b), mv(c, num(3)), mv(b, a), mv(d, self)), mv(c, num(3)), mv(d, self), mv(x, a), mv(a, b), mv(b, x))
	resolves(t, "the word 0", mvs(mv(b, a), mv(a, num(0))), mv(b, a), mv(a, num(0)))
	resolves(t, "the greatest word", mvs(mv(a, num(1<<64-1)), mv(b, a)), mv(b, a), mv(a, num(1<<64-1)))
}

func TestRegistersAndCells(t *testing.T) {
	resolves(t, "chain", mvs(mv(cell(0), a), mv(b, cell(0)), mv(cell(1), b)), mv(cell(1), b), mv(b, cell(0)), mv(cell(0), a))
	resolves(t, "ring of one number", mvs(mv(a, cell(0)), mv(cell(0), a)), mv(x, a), mv(a, cell(0)), mv(cell(0), x))
	resolves(t, "a number is no place", mvs(mv(a, cell(1)), mv(b, cell(0))), mv(a, cell(1)), mv(b, cell(0)))
	resolves(t, "two rings", mvs(mv(a, b), mv(b, a), mv(cell(0), cell(1)), mv(cell(1), cell(0))),
		mv(x, a), mv(a, b), mv(b, x), mv(x, cell(0)), mv(cell(0), cell(1)), mv(cell(1), x))
	answers(t, "a cell for scratch", cell(2), mvs(mv(a, b), mv(b, a)), mvs(mv(cell(2), a), mv(a, b), mv(b, cell(2))))
	answers(t, "scratch of a goal's number", cell(0), mvs(mv(a, b), mv(b, a)), mvs(mv(cell(0), a), mv(a, b), mv(b, cell(0))))
}

// P15.1: which of several moves is next

func TestOrder(t *testing.T) {
	resolves(t, "all can go", mvs(mv(d, h), mv(a, g), mv(c, f), mv(b, h)), mv(d, h), mv(a, g), mv(c, f), mv(b, h))
	// Each time it is the first one of those that remain, not the next one behind the last one.
	resolves(t, "one is set free", mvs(mv(b, a), mv(c, b), mv(e, d)), mv(c, b), mv(b, a), mv(e, d))
	resolves(t, "one is set free by the last", mvs(mv(b, a), mv(e, d), mv(c, b)), mv(e, d), mv(c, b), mv(b, a))
	resolves(t, "two are set free by turns", mvs(mv(a, h), mv(b, a), mv(c, b), mv(d, c), mv(e, g)), mv(d, c), mv(c, b), mv(b, a), mv(a, h), mv(e, g))
	resolves(t, "two readers", mvs(mv(a, h), mv(b, a), mv(e, d), mv(c, a), mv(f, g)), mv(b, a), mv(e, d), mv(c, a), mv(a, h), mv(f, g))
	resolves(t, "rings last", mvs(mv(a, b), mv(b, a), mv(d, c), mv(e, d)), mv(e, d), mv(d, c), mv(x, a), mv(a, b), mv(b, x))
	resolves(t, "the number of a place is nothing", mvs(mv(h, a), mv(g, b), mv(f, c), mv(e, d)), mv(h, a), mv(g, b), mv(f, c), mv(e, d))
}

// P15.1: moves whose goal is their source

func TestGoalIsSource(t *testing.T) {
	resolves(t, "a register", mvs(mv(a, a)))
	resolves(t, "a cell", mvs(mv(cell(0), cell(0))))
	resolves(t, "nothing else", mvs(mv(a, a), mv(b, b), mv(cell(0), cell(0))))
	resolves(t, "the first", mvs(mv(a, a), mv(b, c)), mv(b, c))
	resolves(t, "in between", mvs(mv(b, c), mv(a, a), mv(d, e)), mv(b, c), mv(d, e))
	resolves(t, "the last", mvs(mv(b, c), mv(a, a)), mv(b, c))
	// What it would have read keeps nobody waiting, and it costs no scratch.
	resolves(t, "beside a ring", mvs(mv(c, c), mv(a, b), mv(d, d), mv(b, a)), mv(x, a), mv(a, b), mv(b, x))
	resolves(t, "read by others", mvs(mv(a, a), mv(b, a), mv(c, a)), mv(b, a), mv(c, a))
	resolves(t, "read by the end of a chain", mvs(mv(b, a), mv(a, a), mv(c, b)), mv(c, b), mv(b, a))
	resolves(t, "of the same number, another kind", mvs(mv(a, cell(0)), mv(cell(1), b)), mv(a, cell(0)), mv(cell(1), b))
}

// P15.1: rings

func TestRings(t *testing.T) {
	resolves(t, "two, the other first", mvs(mv(b, a), mv(a, b)), mv(x, b), mv(b, a), mv(a, x))
	resolves(t, "three", mvs(mv(a, b), mv(b, c), mv(c, a)), mv(x, a), mv(a, b), mv(b, c), mv(c, x))
	resolves(t, "three, from the second", mvs(mv(b, c), mv(c, a), mv(a, b)), mv(x, b), mv(b, c), mv(c, a), mv(a, x))
	resolves(t, "three, against their order", mvs(mv(a, b), mv(c, a), mv(b, c)), mv(x, a), mv(a, b), mv(b, c), mv(c, x))
	resolves(t, "three, the other way round", mvs(mv(a, c), mv(b, a), mv(c, b)), mv(x, a), mv(a, c), mv(c, b), mv(b, x))
	resolves(t, "four, mixed", mvs(mv(c, d), mv(a, b), mv(d, a), mv(b, c)), mv(x, c), mv(c, d), mv(d, a), mv(a, b), mv(b, x))
}

func TestGreatRings(t *testing.T) {
	for _, n := range []int{5, 16, 100, 1000} {
		l := ring(100, n)
		done := slices.Concat(mvs(mv(x, reg(100))), l[:n-1], mvs(mv(l[n-1].D, x)))
		resolves(t, "one after the other", l, done...)
		// Backwards, the ring is opened at its last place, and the others go on from there as before.
		last := l[n-1].D
		resolves(t, "backwards", backwards(l), slices.Concat(mvs(mv(x, last)), l[n-1:], l[:n-2], mvs(mv(l[n-2].D, x)))...)
	}
}

func TestTwoRings(t *testing.T) {
	resolves(t, "beside one another", mvs(mv(a, b), mv(b, a), mv(c, d), mv(d, c)), mv(x, a), mv(a, b), mv(b, x), mv(x, c), mv(c, d), mv(d, x))
	resolves(t, "the other one first", mvs(mv(c, d), mv(d, c), mv(a, b), mv(b, a)), mv(x, c), mv(c, d), mv(d, x), mv(x, a), mv(a, b), mv(b, x))
	resolves(t, "in one another", mvs(mv(a, b), mv(c, d), mv(b, a), mv(d, c)), mv(x, a), mv(a, b), mv(b, x), mv(x, c), mv(c, d), mv(d, x))
	resolves(t, "around one another", mvs(mv(a, b), mv(c, d), mv(d, c), mv(b, a)), mv(x, a), mv(a, b), mv(b, x), mv(x, c), mv(c, d), mv(d, x))
	resolves(t, "of two and three", mvs(mv(c, d), mv(a, b), mv(d, e), mv(b, a), mv(e, c)), mv(x, c), mv(c, d), mv(d, e), mv(e, x), mv(x, a), mv(a, b), mv(b, x))
	resolves(t, "three of them", mvs(mv(e, f), mv(a, b), mv(c, d), mv(d, c), mv(b, a), mv(f, e)),
		mv(x, e), mv(e, f), mv(f, x), mv(x, a), mv(a, b), mv(b, x), mv(x, c), mv(c, d), mv(d, x))
}

func TestTails(t *testing.T) {
	for _, l := range [][]api.Move{
		mvs(mv(c, a), mv(a, b), mv(b, a)),
		mvs(mv(a, b), mv(c, a), mv(b, a)),
		mvs(mv(a, b), mv(b, a), mv(c, a)),
	} {
		resolves(t, "of one", l, mv(c, a), mv(x, a), mv(a, b), mv(b, x))
	}
	resolves(t, "of two", mvs(mv(a, b), mv(c, a), mv(d, c), mv(b, a)), mv(d, c), mv(c, a), mv(x, a), mv(a, b), mv(b, x))
	resolves(t, "two of one place", mvs(mv(a, b), mv(c, a), mv(d, a), mv(b, a)), mv(c, a), mv(d, a), mv(x, a), mv(a, b), mv(b, x))
	resolves(t, "one at each place", mvs(mv(a, b), mv(b, a), mv(c, a), mv(d, b)), mv(c, a), mv(d, b), mv(x, a), mv(a, b), mv(b, x))
	resolves(t, "at the last place", mvs(mv(a, b), mv(b, c), mv(c, a), mv(d, c)), mv(d, c), mv(x, a), mv(a, b), mv(b, c), mv(c, x))
	resolves(t, "at one of two rings", mvs(mv(a, b), mv(c, d), mv(e, d), mv(d, c), mv(b, a)), mv(e, d), mv(x, a), mv(a, b), mv(b, x), mv(x, c), mv(c, d), mv(d, x))
}

// P15.2: how many

func TestHowMany(t *testing.T) {
	for _, pairs := range []int{1, 2, 3, 50, 500} {
		var l, want []api.Move
		for k := range pairs {
			p, q := reg(100+2*k), reg(101+2*k)
			l = append(l, mv(p, q), mv(q, p))
			want = append(want, mv(x, p), mv(p, q), mv(q, x))
		}
		resolves(t, "pairs", l, want...)
		if got, _ := moves.Resolve(l, x); len(got) != 3*pairs {
			t.Errorf("%d moves of %d pairs", len(got), pairs)
		}
	}
}

func TestVeryMany(t *testing.T) {
	const n = 4096
	for _, way := range []struct {
		l    []api.Move
		want int
	}{{chain(100, n), n}, {backwards(chain(100, n)), n}, {ring(100, n), n + 1}, {backwards(ring(100, n)), n + 1}} {
		got, errno := moves.Resolve(way.l, x)
		if errno != api.OK || len(got) != way.want {
			t.Errorf("%d moves of %d, error %d, want %d", len(got), n, errno, way.want)
		}
	}
}

// N and W of a source are compared whole.

func TestSourcesThatAreNoPlaces(t *testing.T) {
	for _, s := range []api.Src{
		{Kind: 0, N: 0, W: 1}, {Kind: 0, N: 0, W: 1 << 63}, {Kind: 3, N: 0, W: 1},
		{Kind: 0, N: -1}, {Kind: 3, N: -1}, {Kind: 0, N: -1 << 63}, {Kind: 0, N: 1 << 32, W: 1},
		{Kind: 1, N: 0, W: 0}, {Kind: 1, N: 5, W: 5}, {Kind: 1, N: -1, W: 0},
		{Kind: 2, N: 0, W: 0}, {Kind: 2, N: 0, W: 1}, {Kind: 2, N: 1, W: 0}, {Kind: 2, N: -1, W: 0},
		{Kind: 1, N: 8, W: 0}, {Kind: 2, N: 8, W: 0}, {Kind: 3, N: 8, W: 0}, {Kind: 0, N: 8, W: 1},
	} {
		// None is the place a, or the place x of scratch, though some have its number.
		answers(t, "alone", x, mvs(mv(a, s)), mvs(mv(a, s)))
		answers(t, "ahead of a", x, mvs(mv(a, b), mv(c, s)), mvs(mv(a, b), mv(c, s)))
		answers(t, "behind a", x, mvs(mv(a, s), mv(c, a)), mvs(mv(c, a), mv(a, s)))
		answers(t, "beside a ring", x, mvs(mv(a, b), mv(b, a), mv(c, s)), mvs(mv(c, s), mv(x, a), mv(a, b), mv(b, x)))
		answers(t, "in between", x, mvs(mv(a, b), mv(b, c), mv(c, s)), mvs(mv(a, b), mv(b, c), mv(c, s)))
		answers(t, "twice", x, mvs(mv(b, s), mv(a, s), mv(c, b)), mvs(mv(a, s), mv(c, b), mv(b, s)))
	}
}

func TestGreatNumbers(t *testing.T) {
	const most = 1<<63 - 1
	answers(t, "ring", reg(most), mvs(mv(reg(most-1), cell(most)), mv(cell(most), reg(most-1))),
		mvs(mv(reg(most), reg(most-1)), mv(reg(most-1), cell(most)), mv(cell(most), reg(most))))
	answers(t, "apart by 2 to the 32nd", reg(2<<32), mvs(mv(reg(0), cell(0)), mv(reg(1<<32), reg(1<<33+1)), mv(cell(0), reg(1<<32))),
		mvs(mv(reg(0), cell(0)), mv(cell(0), reg(1<<32)), mv(reg(1<<32), reg(1<<33+1))))
	answers(t, "scratch apart by 2 to the 32nd", reg(1<<32), mvs(mv(reg(0), reg(2<<32)), mv(reg(2<<32), reg(0))),
		mvs(mv(reg(1<<32), reg(0)), mv(reg(0), reg(2<<32)), mv(reg(2<<32), reg(1<<32))))
	answers(t, "a cell beyond a unit", cell(1<<40), mvs(mv(cell(4096), cell(5000)), mv(cell(5000), cell(4096))),
		mvs(mv(cell(1<<40), cell(4096)), mv(cell(4096), cell(5000)), mv(cell(5000), cell(1<<40))))
}

// R3

func TestNothingIsShared(t *testing.T) {
	l := mvs(mv(a, b), mv(b, a), mv(c, d), mv(e, e))
	want := mvs(mv(c, d), mv(x, a), mv(a, b), mv(b, x))
	first, _ := moves.Resolve(l, x)
	second, _ := moves.Resolve(l, x)
	for k := range first {
		first[k] = mv(h, h)
	}
	for k := range l {
		l[k] = mv(g, g)
	}
	if !slices.Equal(second, want) {
		t.Errorf("the second answer is %v, want %v", second, want)
	}
	// Without a ring, and with nothing to be removed.
	l = mvs(mv(a, b), mv(c, d))
	got, _ := moves.Resolve(l, x)
	got[0], got[1] = mv(h, h), mv(g, g)
	if !slices.Equal(l, mvs(mv(a, b), mv(c, d))) {
		t.Errorf("the list is %v behind a change of the answer", l)
	}
}

func TestRoomBehindTheListStays(t *testing.T) {
	row := mvs(mv(a, b), mv(b, a), mv(g, h), mv(h, g))
	got, _ := moves.Resolve(row[:2], x)
	got = append(got, mv(c, c))
	if want := mvs(mv(a, b), mv(b, a), mv(g, h), mv(h, g)); !slices.Equal(row, want) {
		t.Errorf("the row is %v, was %v; the answer is %v", row, want, got)
	}
}

// A call keeps nothing for the next one.
func TestCallsAreApart(t *testing.T) {
	for range 3 {
		resolves(t, "a ring", mvs(mv(a, b), mv(b, a)), mv(x, a), mv(a, b), mv(b, x))
		refuses(t, "one goal twice", x, mv(a, b), mv(a, c))
		resolves(t, "nothing", nil)
		resolves(t, "the other way", mvs(mv(b, c), mv(c, a)), mv(b, c), mv(c, a))
	}
}
