package verify_test

import (
	"math"
	"slices"
	"testing"

	"tappet/api"
	"tappet/verify"
)

// method has two temporaries and two literals.
func method(stack int, list ...api.Instr) api.Method {
	return api.Method{Args: 1, Temps: 2, Stack: stack, Lits: []api.Word{num(1), num(2)}, Code: list}
}

// pushes are so many instructions that push a word.
func pushes(n int) []api.Instr { return slices.Repeat([]api.Instr{in(8, 1)}, n) }

// joined is a method of lists of instructions.
func joined(stack int, lists ...[]api.Instr) api.Method {
	return method(stack, slices.Concat(lists...)...)
}

// right: are these the depths?
func right(t *testing.T, m api.Method, want ...int) {
	t.Helper()
	if list, at, e := verify.Depths(m); !slices.Equal(list, want) || at != -1 || e != api.OK {
		t.Errorf("Depths(%v) = %v, %d, %d, want %v, -1, OK", m, list, at, e, want)
	}
}

// wrong: is this the position of what may not be?
func wrong(t *testing.T, m api.Method, want int) {
	t.Helper()
	if list, at, e := verify.Depths(m); list != nil || at != want || e != api.ErrMethod {
		t.Errorf("Depths(%v) = %v, %d, %d, want none, %d, ErrMethod", m, list, at, e, want)
	}
}

// P5.1

func TestDepthsExamples(t *testing.T) {
	sum := []api.Instr{in(8, 2053), in(8, 1), in(13, 0), in(17)}
	right(t, api.Method{Stack: 2, Code: sum}, 0, 1, 2, 1)
	wrong(t, api.Method{Stack: 1, Code: sum}, 1)
	for stack := range 17 {
		wrong(t, api.Method{Stack: stack, Code: []api.Instr{in(10)}}, 0)
		wrong(t, api.Method{Stack: stack, Code: []api.Instr{in(8, 1)}}, 0)
		wrong(t, api.Method{Stack: stack, Code: []api.Instr{in(16, 0)}}, 0)
	}
	right(t, api.Method{Stack: 1, Code: []api.Instr{in(8, 1), in(15, 0), in(18)}}, 0, 1, 0)
}

func TestMethodsThatMayNotBe(t *testing.T) {
	end := in(18)
	for _, m := range []api.Method{
		{},
		{Code: []api.Instr{}},
		{Args: -1, Code: []api.Instr{end}},
		{Args: 5, Temps: 5, Code: []api.Instr{end}},
		{Args: 1, Code: []api.Instr{end}},
		{Temps: 17, Code: []api.Instr{end}},
		{Stack: -1, Code: []api.Instr{end}},
		{Stack: 17, Code: []api.Instr{end}},
		{Stack: math.MaxInt, Code: []api.Instr{end}},
		{Prim: -1, Code: []api.Instr{end}},
		{Prim: 256, Code: []api.Instr{end}},
		{Lits: make([]api.Word, 33), Code: []api.Instr{end}},
		{Code: slices.Repeat([]api.Instr{end}, 129)},
		method(2, in(0), end),
		method(2, in(24), end),
		method(2, end, in(-1)),
		method(2, in(8, -1), end),
		method(2, in(8, 4096), end),
		method(2, in(8, 0, -1), end),
		method(2, in(8, 0, 4096), end),
		method(2, in(14, math.MinInt), end),
		method(2, in(14, math.MaxInt), end),
		// What an instruction violates comes behind what code refuses.
		method(2, in(10), in(0)),
		method(2, in(1, 2), in(0)),
	} {
		wrong(t, m, -1)
	}
}

func TestGreatestMethod(t *testing.T) {
	list := slices.Concat(pushes(16), slices.Repeat([]api.Instr{in(13, 7)}, 15), slices.Repeat([]api.Instr{in(3, 31), in(2, 15)}, 48), []api.Instr{in(17)})
	m := api.Method{Args: 4, Temps: 16, Stack: 16, Prim: 255, Lits: make([]api.Word, 32), Code: list}
	if len(list) != 128 {
		t.Fatalf("%d instructions", len(list))
	}
	var want []int
	for depth := range 16 {
		want = append(want, depth)
	}
	for depth := range 15 {
		want = append(want, 16-depth)
	}
	want = append(want, slices.Repeat([]int{1, 2}, 48)...)
	right(t, m, append(want, 1)...)
	m.Stack = 15
	wrong(t, m, 15)
}

// shape is an instruction with what the table says of it.
type shape struct {
	i            api.Instr
	pops, pushes int
	end          bool
}

// shapes are all operations; the jumps lead on to instruction A, which whoever lays them in has to set.
func shapes() []shape {
	list := []shape{
		{in(1, 1), 0, 1, false}, {in(3, 1), 0, 1, false}, {in(4, 9), 0, 1, false}, {in(6), 0, 1, false}, {in(7), 0, 1, false},
		{in(8, 4095), 0, 1, false}, {in(19, 1), 0, 1, false}, {in(20, 9, 9), 0, 1, false},
		{in(2, 1), 1, 0, false}, {in(5, 9), 1, 0, false}, {in(10), 1, 0, false}, {in(21, 9, 9), 1, 0, false},
		{in(9), 1, 2, false},
		{in(14), 0, 0, false}, {in(15), 1, 0, false}, {in(16), 1, 0, false},
		{in(17), 1, 0, true}, {in(22), 1, 0, true}, {in(23), 1, 0, true}, {in(18), 0, 0, true},
	}
	for b := range 5 {
		list = append(list, shape{in(11, 1, b), b + 1, 1, false}, shape{in(12, 1, b), b + 1, 1, false})
	}
	for a := range 8 {
		list = append(list, shape{in(13, a), 2, 1, false})
	}
	return list
}

// ahead is a method that pushes words ahead of an instruction, which is followed by the end of the code.
func ahead(s shape, words, stack int) api.Method {
	if s.i.Op >= 14 && s.i.Op <= 16 {
		s.i.A = words + 1
	}
	return joined(stack, pushes(words), []api.Instr{s.i, in(18)})
}

func TestEnoughWords(t *testing.T) {
	for _, s := range shapes() {
		for extra := range 3 {
			words := s.pops + extra
			m := ahead(s, words, 16)
			want := []int{}
			for depth := range words + 1 {
				want = append(want, depth)
			}
			last := words - s.pops + s.pushes
			if s.end {
				last = -1
			}
			right(t, m, append(want, last)...)
		}
		for words := range s.pops {
			wrong(t, ahead(s, words, 16), words)
		}
	}
}

func TestEnoughRoom(t *testing.T) {
	for _, s := range shapes() {
		for extra := range 3 {
			words := s.pops + extra
			after := words - s.pops + s.pushes
			room := max(words, after)
			if _, at, e := verify.Depths(ahead(s, words, room)); at != -1 || e != api.OK {
				t.Errorf("%v behind %d words, room for %d: %d, %d", s.i, words, room, at, e)
			}
			if room == 0 {
				continue
			}
			// Either the instruction has no room, or what pushed the last word ahead of it had none.
			at := words
			if after <= words {
				at--
			}
			wrong(t, ahead(s, words, room-1), at)
		}
	}
}

func TestOperands(t *testing.T) {
	two, none := method(6), api.Method{Stack: 6}
	for _, c := range []struct {
		m     api.Method
		op, b int
		bound int // the least A that may not be
	}{
		{two, 1, 0, 2}, {two, 2, 0, 2}, {none, 1, 0, 0}, {none, 2, 0, 0},
		{two, 3, 0, 2}, {two, 11, 0, 2}, {two, 12, 0, 2}, {two, 19, 0, 2}, {two, 11, 4, 2}, {two, 12, 4, 2},
		{none, 3, 0, 0}, {none, 11, 0, 0}, {none, 12, 0, 0}, {none, 19, 0, 0},
		{two, 13, 0, 8}, {none, 13, 0, 8},
		{two, 14, 0, 7}, {two, 15, 0, 7}, {two, 16, 0, 7},
	} {
		for a := range 4096 {
			m := c.m
			// Nothing reaches the instruction, so that its operands alone are judged.
			m.Code = append(pushes(5), in(18), in(c.op, a, c.b))
			if a < c.bound {
				right(t, m, 0, 1, 2, 3, 4, 5, -1)
			} else {
				wrong(t, m, 6)
			}
		}
	}
	// The edge of the table's sentences is MaxTemps, MaxLits and MaxCode where a method has as many.
	full := api.Method{Temps: 16, Stack: 1, Lits: make([]api.Word, 32), Code: slices.Repeat([]api.Instr{in(18)}, 128)}
	for _, c := range [][2]int{{1, 16}, {2, 16}, {3, 32}, {11, 32}, {12, 32}, {19, 32}, {14, 128}, {15, 128}, {16, 128}} {
		full.Code[127] = in(c[0], c[1]-1)
		if _, at, e := verify.Depths(full); at != -1 || e != api.OK {
			t.Errorf("%v: %d, %d", full.Code[127], at, e)
		}
		full.Code[127] = in(c[0], c[1])
		wrong(t, full, 127)
	}
}

func TestArgumentsOfSends(t *testing.T) {
	for _, op := range []int{11, 12} {
		for b := range 4096 {
			m := joined(16, pushes(16), []api.Instr{in(op, 1, b), in(18)})
			if b <= 4 {
				right(t, m, 0, 1, 2, 3, 4, 5, 6, 7, 8, 9, 10, 11, 12, 13, 14, 15, 16, 16-b)
			} else {
				wrong(t, m, 16)
			}
		}
	}
}

func TestOperandsThatAreArbitrary(t *testing.T) {
	for _, s := range shapes() {
		for _, n := range []int{0, 1, 5, 8, 128, 4095} {
			m := ahead(s, s.pops, 16)
			i := &m.Code[s.pops]
			switch i.Op {
			case 11, 12:
				continue
			case 1, 2, 3, 13, 14, 15, 16, 19:
				i.B = n
			default:
				i.A, i.B = n, 4095-n
			}
			if _, at, e := verify.Depths(m); at != -1 || e != api.OK {
				t.Errorf("%v: %d, %d", *i, at, e)
			}
		}
	}
}

func TestFirstOperandComesAheadOfPaths(t *testing.T) {
	// Instruction 0 underflows, but 2 and 3 have wrong operands, and nothing reaches them.
	wrong(t, method(2, in(10), in(18), in(13, 8), in(1, 2)), 2)
	wrong(t, method(2, in(10), in(18), in(13, 7), in(1, 2)), 3)
	wrong(t, method(2, in(10), in(18), in(13, 7), in(1, 1)), 0)
	// A is as wrong as B is, whichever comes first.
	wrong(t, method(2, in(18), in(11, 2, 0), in(11, 0, 5)), 1)
	wrong(t, method(2, in(18), in(11, 0, 5), in(11, 2, 0)), 1)
	wrong(t, method(2, in(18), in(12, 2, 5)), 1)
}

func TestLastInstructionThatGoesOn(t *testing.T) {
	for _, s := range shapes() {
		m := ahead(s, s.pops, 16)
		m.Code = m.Code[:s.pops+1]
		last := &m.Code[s.pops]
		if last.Op >= 14 && last.Op <= 16 {
			last.A = 0
		}
		switch {
		case s.end || last.Op == 14:
			if _, at, e := verify.Depths(m); at != -1 || e != api.OK {
				t.Errorf("%v: %d, %d", m, at, e)
			}
		default:
			wrong(t, m, s.pops)
			// Nothing reaches it.
			m.Code = slices.Insert(m.Code, s.pops, in(18))
			if list, at, e := verify.Depths(m); e != api.OK || list[s.pops+1] != -1 {
				t.Errorf("%v: %v, %d, %d", m, list, at, e)
			}
		}
	}
}

func TestUnreachedInstructions(t *testing.T) {
	right(t, method(0, in(18), in(10)), 0, -1)
	right(t, method(0, in(18), in(9), in(13), in(8), in(14, 1)), 0, -1, -1, -1, -1)
	right(t, method(1, in(14, 3), in(10), in(14, 1), in(8), in(17)), 0, -1, -1, 0, 1)
	right(t, method(1, in(8), in(22), in(8), in(23), in(17)), 0, 1, -1, -1, -1)
	// A jump that nothing reaches leads nowhere.
	right(t, method(1, in(8), in(17), in(14, 1)), 0, 1, -1)
	right(t, method(1, in(8), in(14, 3), in(15, 0), in(17)), 0, 1, -1, 1)
	// Both ways of a conditional jump are taken, also where both are the same.
	right(t, method(1, in(8), in(15, 3), in(18), in(18)), 0, 1, 0, 0)
	right(t, method(1, in(8), in(16, 2), in(18)), 0, 1, 0)
}

func TestPathsThatMeet(t *testing.T) {
	// Both ways push one word.
	right(t, method(1, in(6), in(15, 4), in(6), in(14, 5), in(8), in(17)), 0, 1, 0, 1, 0, 1)
	// One pushes none: 4 is reached with 1 and with 0, which may be enough for it or not.
	wrong(t, method(2, in(6), in(15, 4), in(6), in(14, 4), in(18)), 4)
	wrong(t, method(2, in(6), in(16, 4), in(6), in(14, 4), in(17)), 4)
	// 4 is reached with 1 and with 2.
	wrong(t, method(3, in(6), in(6), in(15, 4), in(6), in(17)), 4)
	// A conditional jump to the next is one depth, whichever way is taken.
	right(t, method(2, in(6), in(6), in(15, 3), in(17)), 0, 1, 2, 1)
}

func TestLoops(t *testing.T) {
	right(t, method(0, in(14, 0)), 0)
	right(t, method(1, in(6), in(10), in(14, 0)), 0, 1, 0)
	right(t, method(2, in(6), in(6), in(15, 1), in(17)), 0, 1, 2, 1)
	right(t, method(3, in(6), in(6), in(9), in(15, 2), in(10), in(16, 0), in(18)), 0, 1, 2, 3, 2, 1, 0)
	// Each round leaves one word more, or one less.
	for stack := range 17 {
		wrong(t, method(stack, in(6), in(14, 0)), 0)
		wrong(t, method(stack, in(14, 1), in(6), in(14, 1)), 1)
	}
	for words := range 17 {
		wrong(t, joined(16, pushes(words), []api.Instr{in(10), in(14, words)}), words)
	}
	// A conditional jump to itself.
	wrong(t, method(2, in(6), in(6), in(15, 2), in(17)), 2)
	wrong(t, method(1, in(6), in(16, 1), in(18)), 1)
}

func TestLeastInstructionAtFault(t *testing.T) {
	// 4 has too few words, and so has 1, to which the jump leads back.
	wrong(t, method(2, in(14, 2), in(17), in(6), in(15, 1), in(13)), 1)
	wrong(t, method(2, in(14, 2), in(17), in(6), in(16, 4), in(14, 1), in(18)), 1)
	// Behind 6 the code would go on; 1 has too few words.
	wrong(t, method(1, in(14, 4), in(10), in(18), in(10), in(6), in(15, 1), in(6)), 1)
	// 7 has no room; the jump leads back to 2 with the same depth.
	wrong(t, method(1, in(6), in(15, 4), in(18), in(18), in(6), in(15, 2), in(6), in(6)), 7)
	// 8 has no room; the jump leads back to 2 with another depth.
	wrong(t, method(2, in(6), in(15, 4), in(18), in(18), in(6), in(6), in(15, 2), in(6), in(6)), 2)
	// Behind 3 the code would go on; 2 has too few words, or leads to 3 with another depth.
	wrong(t, method(1, in(6), in(15, 3), in(10), in(6)), 2)
	wrong(t, method(1, in(6), in(15, 3), in(6), in(6)), 3)
}

func TestPathsContinueWithEachDepth(t *testing.T) {
	// 5 is reached with 0 and 1, and leads to 1 with both: with 1 alone, that would have enough words.
	wrong(t, method(2, in(14, 2), in(17), in(6), in(15, 5), in(6), in(14, 1)), 1)
	// 6 is reached with 1 and 2, and leads to 2 with both.
	wrong(t, method(3, in(6), in(14, 3), in(17), in(6), in(15, 6), in(6), in(14, 2)), 2)
	// 5 is reached with 0, with which it has too few words, and with 1, with which it leads to 1, which has too few.
	wrong(t, method(2, in(14, 2), in(17), in(6), in(15, 5), in(6), in(10), in(14, 1)), 1)
	// Each round leaves one word more, and leads to 1 with another depth.
	wrong(t, method(16, in(14, 2), in(18), in(6), in(6), in(15, 1), in(14, 2)), 1)
	// It leads to 1 in no round but the last, for which it has no room.
	for words := 1; words < 16; words++ {
		wrong(t, joined(words, []api.Instr{in(14, 2), in(18), in(6)}, slices.Repeat([]api.Instr{in(9)}, words), []api.Instr{in(14, 1)}), words+2)
	}
}

func TestPathsEndAtAFault(t *testing.T) {
	// 2 has too few words; were the path to continue, 1 would have too few, too.
	wrong(t, method(2, in(14, 2), in(17), in(16, 1), in(18)), 2)
	wrong(t, method(2, in(14, 2), in(17), in(10), in(14, 1)), 2)
	wrong(t, method(2, in(14, 3), in(6), in(17), in(13), in(14, 1)), 3)
	// 5 has no room; were the path to continue, 2 would be reached with different depths.
	wrong(t, method(1, in(6), in(15, 4), in(18), in(18), in(6), in(9), in(14, 2)), 5)
	right(t, method(2, in(6), in(15, 4), in(18), in(18), in(6), in(9), in(13), in(17)), 0, 1, 0, -1, 0, 1, 2, 1)
}

// P1

func TestDepthsLeavesTheMethod(t *testing.T) {
	m := method(2, in(6), in(6), in(15, 1), in(17))
	lits, list := slices.Clone(m.Lits), slices.Clone(m.Code)
	first, _, _ := verify.Depths(m)
	first[0] = 99
	second, _, _ := verify.Depths(m)
	if !slices.Equal(second, []int{0, 1, 2, 1}) || !slices.Equal(m.Lits, lits) || !slices.Equal(m.Code, list) {
		t.Errorf("%v of %v", second, m)
	}
}
