package gen_test

import (
	"math"
	"slices"
	"testing"

	"tappet/api"
	"tappet/gen"
)

// P12.1: the edges, and what is refused.

func TestDeepStack(t *testing.T) {
	// 16 temporaries below 16 words: all 32 registers. The last ones are popped again into the temporaries.
	var l []api.Instr
	var parts []part
	for k := range 16 {
		l = append(l, in(1, 15-k))
		parts = append(parts, part{nil, nil})
		for n := range k {
			parts[k].stack = append(parts[k].stack, reg(15-n))
		}
	}
	pushed := slices.Clone(l)
	var moves []api.Ins
	for n := range 16 {
		moves = append(moves, move(reg(16+n), reg(15-n)))
	}
	l = append(l, in(14, 17), in(13, 0))
	parts = append(parts,
		part{append(slices.Clone(parts[15].stack), reg(0)), append(moves, jump(17))},
		part{regs(16, 32), code(arith(0, reg(30), reg(30), reg(31)))})
	for n := range 15 {
		l = append(l, in(2, n))
		parts = append(parts, part{regs(16, 31-n), code(move(reg(n), reg(30-n)))})
	}
	l = append(l, in(18))
	parts = append(parts, part{nil, code(ret(self()))})
	m := method(16, 16, l...)
	m.Args = 4
	generates(t, m, parts...)
	// One more word would be too many.
	refuses(t, "17 words", method(16, 16, append(pushed, in(6), in(18))...), ref(1), api.ErrMethod)
}

func TestNoRegisters(t *testing.T) {
	generates(t, api.Method{Code: []api.Instr{in(18)}}, part{nil, code(ret(self()))})
	generates(t, api.Method{Lits: []api.Word{}, Code: []api.Instr{in(14, 1), in(14, 0)}}, part{nil, code(jump(1))}, part{nil, code(jump(0))})
}

func TestLongestMethod(t *testing.T) {
	// Sends to what the one ahead of them answered: as many instructions as there may be.
	l := []api.Instr{in(6)}
	parts := []part{{nil, nil}}
	at := self()
	for k := range 126 {
		l = append(l, in(11, k%4))
		parts = append(parts, part{srcs(at), code(send(k, lits()[k%4], reg(4), at))})
		at = reg(4)
	}
	l = append(l, in(17))
	parts = append(parts, part{srcs(reg(4)), code(ret(reg(4)))})
	if len(l) != api.MaxCode {
		t.Fatal(len(l))
	}
	generates(t, method(4, 1, l...), parts...)
	refuses(t, "129 instructions", method(4, 1, append(l, in(18))...), ref(1), api.ErrMethod)
}

func TestManyLiterals(t *testing.T) {
	m := api.Method{Stack: 1, Lits: make([]api.Word, api.MaxLits), Code: []api.Instr{in(3, 31), in(11, 30), in(17)}}
	for k := range m.Lits {
		m.Lits[k] = 1<<64 - 1 - api.Word(k)
	}
	generates(t, m,
		part{nil, nil},
		part{srcs(lit(1<<64 - 32)), code(send(0, 1<<64-31, reg(0), lit(1<<64-32)))},
		part{srcs(reg(0)), code(ret(reg(0)))})
	m.Lits = append(m.Lits, 1)
	refuses(t, "33 literals", m, ref(1), api.ErrMethod)
}

func TestLiteralZero(t *testing.T) {
	zero := func(l ...api.Instr) api.Method {
		return api.Method{Temps: 1, Stack: 2, Lits: []api.Word{ref(9), 0, ref(8)}, Code: l}
	}
	refuses(t, "pushed", zero(in(3, 1), in(17)), ref(1), api.ErrMethod)
	refuses(t, "sent", zero(in(6), in(11, 1), in(17)), ref(1), api.ErrMethod)
	refuses(t, "sent with an argument", zero(in(6), in(6), in(11, 1, 1), in(17)), ref(1), api.ErrMethod)
	refuses(t, "at the end", zero(in(6), in(15, 3), in(18), in(3, 1), in(17)), ref(1), api.ErrMethod)
	refuses(t, "pushed, and once more where no way reaches", zero(in(3, 1), in(17), in(3, 1)), ref(1), api.ErrMethod)
	// Where it isn't pushed and isn't sent.
	generates(t, zero(in(3, 0), in(11, 2), in(17)),
		part{nil, nil},
		part{srcs(lit(ref(9))), code(send(0, ref(8), reg(1), lit(ref(9))))},
		part{srcs(reg(1)), code(ret(reg(1)))})
	generatesSome(t, zero(in(18), in(3, 1), in(11, 1), in(17)), []int{1, 2, 3}, part{nil, code(ret(self()))}, unreached(), unreached(), unreached())
	// A is no literal here, or one of a trap.
	generates(t, zero(in(8, 1), in(4, 1), in(13, 1), in(5, 1), in(18)),
		part{nil, nil},
		part{srcs(lit(num(-2047))), code(load(1, reg(2)))},
		part{srcs(lit(num(-2047)), reg(2)), code(arith(1, reg(1), lit(num(-2047)), reg(2)))},
		part{srcs(reg(1)), code(store(1, reg(1)))},
		part{nil, code(ret(self()))})
	generates(t, zero(in(19, 1), in(12, 1), in(17)),
		part{nil, code(trap())},
		part{srcs(reg(1)), code(trap())},
		part{srcs(reg(1)), code(ret(reg(1)))})
}

// wrongNumbers are methods for which there are no depths for their numbers' or their lists' sake.
func wrongNumbers() []api.Method {
	end := []api.Instr{in(18)}
	return []api.Method{
		{Args: -1, Code: end},
		{Args: 1, Code: end},
		{Args: 5, Temps: 5, Code: end},
		{Args: math.MinInt, Temps: math.MinInt, Code: end},
		{Temps: 17, Code: end},
		{Temps: math.MaxInt, Code: end},
		{Stack: -1, Code: end},
		{Stack: 17, Code: end},
		{Prim: -1, Code: end},
		{Prim: 256, Code: end},
		{Lits: make([]api.Word, 33), Code: end},
		{Code: slices.Repeat(end, 129)},
	}
}

// wrongCode is such code for which there are no depths, with two temporaries, two words on the stack and four literals, whatever follows.
func wrongCode() [][]api.Instr {
	return [][]api.Instr{
		// No operation, no operand.
		{in(0)}, {in(24)}, {in(-1)}, {in(1<<32 + 18)}, {in(18, -1)}, {in(18, 4096)}, {in(18, 0, -1)}, {in(18, 0, 4096)},
		// Not there.
		{in(1, 2), in(17)}, {in(6), in(2, 2), in(18)}, {in(3, 4), in(17)}, {in(19, 4), in(17)}, {in(6), in(11, 4), in(17)}, {in(6), in(11, 0, 5), in(17)},
		{in(6), in(12, 4), in(17)}, {in(6), in(6), in(13, 8), in(17)}, {in(14, 128)}, {in(6), in(15, 128), in(18)}, {in(6), in(16, 128), in(18)},
		// Not there, where no way reaches.
		{in(18), in(1, 2)}, {in(18), in(3, 4)}, {in(18), in(11, 4)}, {in(18), in(13, 8)}, {in(18), in(14, 128)},
		// Too few words.
		{in(10), in(18)}, {in(9), in(18)}, {in(17)}, {in(15, 0)}, {in(2), in(18)}, {in(5), in(18)}, {in(11), in(17)}, {in(6), in(11, 0, 1), in(17)}, {in(12), in(17)}, {in(6), in(13), in(17)},
		// Too many.
		{in(6), in(6), in(6), in(17)}, {in(6), in(6), in(9), in(17)},
		// Different depths.
		{in(6), in(14, 0)}, {in(6), in(6), in(15, 2), in(18)},
	}
}

// wrongEnds are such code that goes on beyond the last instruction, or names it.
func wrongEnds() [][]api.Instr {
	return [][]api.Instr{nil, {}, {in(6)}, {in(8)}, {in(7)}, {in(19)}, {in(6), in(11)}, {in(14, 1)}, {in(6), in(15, 2)}, {in(6), in(16, 1)}, {in(18), in(14, 2)}}
}

func TestWrongMethods(t *testing.T) {
	l := wrongNumbers()
	for _, c := range slices.Concat(wrongCode(), wrongEnds()) {
		l = append(l, method(2, 2, c...))
	}
	for _, m := range l {
		refuses(t, "wrong", m, ref(1), api.ErrMethod)
		refuses(t, "wrong, and of the method 0", m, 0, api.ErrMethod)
		m.Lits = slices.Repeat([]api.Word{0}, len(m.Lits))
		refuses(t, "wrong, and with literals 0", m, ref(1), api.ErrMethod)
	}
	refuses(t, "the zero method", api.Method{}, ref(1), api.ErrMethod)
	refuses(t, "the zero method, with empty lists", api.Method{Lits: []api.Word{}, Code: []api.Instr{}}, ref(1), api.ErrMethod)
}

func TestWrongMethodsWithOperationsOfBlocks(t *testing.T) {
	for op := 20; op <= 23; op++ {
		for _, m := range wrongNumbers() {
			m.Code = append(slices.Clone(m.Code), in(op))
			refuses(t, "wrong, and a block's", m, ref(1), api.ErrMethod)
		}
		for _, c := range wrongCode() {
			m := method(2, 2, append(c, in(18), in(op))...)
			refuses(t, "wrong, and a block's", m, ref(1), api.ErrMethod)
			refuses(t, "wrong, and a block's, and of the method 0", m, 0, api.ErrMethod)
		}
	}
}

func TestOperationsOfBlocks(t *testing.T) {
	for _, l := range [][]api.Instr{
		{in(20), in(17)},
		{in(20, 4095, 4095), in(17)},
		{in(6), in(21), in(18)},
		{in(6), in(22)},
		{in(6), in(23)},
		{in(6), in(15, 3), in(18), in(20), in(23)},
		{in(3), in(11), in(22)},
	} {
		m := method(0, 1, l...)
		refuses(t, "of a block", m, ref(1), api.ErrTrap)
		refuses(t, "of a block, and of the method 0", m, 0, api.ErrTrap)
		m.Lits = []api.Word{0}
		refuses(t, "of a block, and with a literal 0", m, ref(1), api.ErrTrap)
		refuses(t, "of a block, with a literal 0, and of the method 0", m, 0, api.ErrTrap)
	}
	for op := 20; op <= 23; op++ {
		for _, l := range [][]api.Instr{
			{in(18), in(op)},
			{in(14, 2), in(op, 4095, 4095), in(18)},
			{in(18), in(18), in(op), in(18)},
		} {
			refuses(t, "of a block, where no way reaches", method(0, 0, l...), ref(1), api.ErrTrap)
			refuses(t, "of a block, where no way reaches, and of the method 0", method(0, 0, l...), 0, api.ErrTrap)
		}
		refuses(t, "wrong depths and a block's", method(0, 0, in(10), in(op)), ref(1), api.ErrMethod)
		refuses(t, "wrong operands and a block's", method(0, 1, in(op), in(1, 0), in(17)), ref(1), api.ErrMethod)
	}
}

func TestMethodZero(t *testing.T) {
	refuses(t, "of the method 0", method(0, 0, in(18)), 0, api.ErrMethod)
	refuses(t, "of the method 0", method(2, 1, in(3), in(11), in(17)), 0, api.ErrMethod)
	refuses(t, "of the method 0, with a literal 0", api.Method{Stack: 1, Lits: []api.Word{0}, Code: []api.Instr{in(3), in(17)}}, 0, api.ErrMethod)
}

// R3

// busy is a method with something of each kind, and a copy of it.
func busy() (api.Method, api.Method) {
	m := method(2, 4, in(1), in(3, 1), in(9), in(11, 3, 2), in(2, 1), in(1), in(4, 2), in(13, 0), in(15, 0), in(7), in(14, 11), in(2), in(1), in(17), in(18))
	m.Args, m.Prim = 2, 3
	other := m
	other.Lits, other.Code = slices.Clone(m.Lits), slices.Clone(m.Code)
	return m, other
}

func TestMethodIsNeitherModifiedNorRetained(t *testing.T) {
	m, other := busy()
	u, e := gen.Gen(m, ref(3))
	same := m.Args == other.Args && m.Temps == other.Temps && m.Stack == other.Stack && m.Prim == other.Prim
	if e != api.OK || !same || !slices.Equal(m.Lits, other.Lits) || !slices.Equal(m.Code, other.Code) {
		t.Fatalf("error %d, %v was %v", e, m, other)
	}
	clear(m.Lits)
	clear(m.Code)
	again, e := gen.Gen(other, ref(3))
	if e != api.OK || !sameUnit(u, again) {
		t.Fatalf("error %d, %v, want %v", e, again, u)
	}
}

// spoil changes each element of the lists of a unit, one after the other, also what is behind their ends, and hands it to a check each time.
func spoil(u api.Unit, check func()) {
	marked := api.Src{Kind: 9, N: 9, W: 9}
	lists := [][]api.Src{}
	for _, i := range u.Code {
		lists = append(lists, i.L)
	}
	lists = append(lists, u.Maps...)
	for _, l := range lists {
		for k := range l[:cap(l)] {
			was := l[:cap(l)][k]
			l[:cap(l)][k] = marked
			check()
			l[:cap(l)][k] = was
		}
	}
}

func TestListsOfAUnitAreApart(t *testing.T) {
	m, _ := busy()
	u, _ := gen.Gen(m, ref(3))
	marks := func() int {
		n := 0
		for _, i := range u.Code {
			for _, s := range i.L {
				if s.Kind == 9 {
					n++
				}
			}
		}
		for _, l := range u.Maps {
			for _, s := range l {
				if s.Kind == 9 {
					n++
				}
			}
		}
		return n
	}
	spoil(u, func() {
		if n := marks(); n > 1 {
			t.Fatalf("%d lists share a source", n)
		}
	})
}

func TestAnswersAreNewMemory(t *testing.T) {
	m, _ := busy()
	u, _ := gen.Gen(m, ref(3))
	other, _ := gen.Gen(m, ref(3))
	for k := range u.Code {
		clear(u.Code[k].L)
	}
	for _, l := range u.Maps {
		clear(l)
	}
	clear(u.Code)
	clear(u.Starts)
	clear(u.Maps)
	again, _ := gen.Gen(m, ref(3))
	if !sameUnit(again, other) {
		t.Fatalf("%v, want %v", again, other)
	}
}
