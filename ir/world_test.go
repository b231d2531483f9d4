package ir_test

import (
	"math"

	"tappet/api"
)

// num and ref are words, worked out from chapter 1's sentences.
func num(n int) api.Word  { return api.Word(2*n + 1) }
func ref(at int) api.Word { return api.Word(2 * at) }

// The sources, and the list of some.
func reg(n int) api.Src           { return api.Src{Kind: 0, N: n} }
func lit(w api.Word) api.Src      { return api.Src{Kind: 1, W: w} }
func self() api.Src               { return api.Src{Kind: 2} }
func cell(n int) api.Src          { return api.Src{Kind: 3, N: n} }
func srcs(l ...api.Src) []api.Src { return l }

// The instructions: with a result, and without one.
func gives(op, n int, d api.Src, w api.Word, l ...api.Src) api.Ins {
	return api.Ins{Op: op, N: n, D: d, L: l, W: w}
}
func does(op, n int, w api.Word, l ...api.Src) api.Ins { return api.Ins{Op: op, N: n, L: l, W: w} }

// row is one of the chapter's table.
type row struct {
	op, least, most int
	leaves          bool
}

func table() []row {
	return []row{{1, 1, 1, true}, {2, 2, 2, true}, {3, 0, 0, true}, {4, 1, 1, false}, {5, 0, 0, false}, {6, 1, 1, false}, {7, 1, 5, true}, {8, 1, 1, false}, {9, 0, 0, false}}
}

// noOperations are numbers that are none's.
func noOperations() []int {
	return []int{math.MinInt, math.MinInt32, -1 << 32, -256, -9, -7, -1, 0, 10, 11, 16, 63, 64, 256, 257, 1 << 16, 1 << 32, 1<<32 + 1, 1<<32 + 7, math.MaxInt32, math.MaxInt - 1, math.MaxInt}
}

// smallest is the unit of chapter 16's example.
func smallest() api.Unit {
	return api.Unit{Method: ref(1), Code: []api.Ins{does(9, 0, 0)}, Starts: []int{0, 1}, Maps: [][]api.Src{nil}}
}

// rich is a valid unit with each operation, each kind of source and both kinds of place. The numbers are the greatest that its bounds permit where it can be.
func rich() api.Unit {
	return api.Unit{
		Method: ref(5), Args: 1, Temps: 2, Regs: 3, Spills: 2, Sites: 3,
		Enter: []api.Ins{
			gives(1, 0, cell(1), 0, reg(0)),
			gives(1, 0, reg(2), 0, lit(ref(9))),
			gives(1, 0, reg(0), 0, self()),
			gives(1, 0, reg(1), 0, cell(0)),
		},
		Code: []api.Ins{
			gives(1, 0, reg(0), 0, lit(num(7))),
			gives(2, 7, cell(0), 0, reg(2), cell(1)),
			gives(3, 4095, reg(2), 0),
			does(4, 4095, 0, self()),
			does(5, 4, 0),
			does(6, 4, num(0), reg(1)),
			does(6, 0, num(1), cell(1)),
			gives(7, 2, reg(0), num(0), self()),
			gives(7, 0, cell(1), ref(3), reg(2), lit(num(0)), lit(1<<63), cell(1), reg(0)),
			does(8, 0, 0, reg(2)),
			does(9, 0, 0),
		},
		Starts: []int{0, 0, 4, 9, 9, 11},
		Maps: [][]api.Src{
			{reg(0), cell(1)},
			{reg(0), reg(0), lit(num(-1)), self(), cell(0), reg(2)},
			{},
			{self(), lit(math.MaxUint64)},
			{cell(1), reg(2), cell(1)},
		},
	}
}

// badSources are none in any unit, but for the first two, which the bounds of rich forbid.
func badSources() []api.Src {
	l := srcs(reg(3), cell(2), lit(0), reg(4096), reg(-1), cell(-1), reg(math.MaxInt), reg(math.MinInt), cell(math.MaxInt), cell(math.MinInt), reg(1<<32), cell(1<<32+1))
	for _, s := range srcs(reg(0), cell(0), self()) {
		for _, w := range []api.Word{num(0), ref(1), 1 << 63, math.MaxUint64} {
			s.W = w
			l = append(l, s)
		}
	}
	for _, s := range srcs(lit(num(3)), self()) {
		for _, n := range []int{1, 2, -1, math.MaxInt, math.MinInt} {
			s.N = n
			l = append(l, s)
		}
	}
	for _, kind := range []int{-1, 4, 5, 7, 8, 256, 1 << 32, 1<<32 + 1, math.MaxInt, math.MinInt} {
		l = append(l, api.Src{Kind: kind}, api.Src{Kind: kind, W: num(1)}, api.Src{Kind: kind, N: 1})
	}
	return l
}
