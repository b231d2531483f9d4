package gen_test

import (
	"slices"
	"testing"

	"tappet/api"
	"tappet/gen"
	"tappet/ir"
)

// P12.1: the table, with two temporaries, so that the words on the stack have the registers from 2 on as their homes.

func TestChapterExample(t *testing.T) {
	m := method(1, 2, in(1), in(8, 2049), in(13), in(2), in(18))
	generates(t, m,
		part{nil, nil},
		part{srcs(reg(0)), nil},
		part{srcs(reg(0), lit(3)), code(arith(0, reg(1), reg(0), lit(3)))},
		part{srcs(reg(1)), code(move(reg(0), reg(1)))},
		part{nil, code(ret(self()))})
}

func TestNumbersOfUnit(t *testing.T) {
	for args := range 5 {
		for _, temps := range []int{args, 4, 15, 16} {
			for _, stack := range []int{0, 1, 7, 16} {
				m := api.Method{Args: args, Temps: temps, Stack: stack, Prim: 7, Code: []api.Instr{in(18)}}
				for _, w := range []api.Word{1, 2, 3, 77, 1 << 63, 1<<64 - 1} {
					want := unit(m, nil, part{nil, code(ret(self()))})
					want.Method = w
					u, e := gen.Gen(m, w)
					if e != api.OK || !sameUnit(u, want) || ir.Check(u) != api.OK {
						t.Fatalf("Gen(%v, %d) = error %d, %v, want %v", m, w, e, u, want)
					}
				}
			}
		}
	}
}

func TestPushes(t *testing.T) {
	generates(t, method(2, 6, in(1, 1), in(3, 1), in(8, 2053), in(9), in(6), in(1, 0), in(18)),
		part{nil, nil},
		part{srcs(reg(1)), nil},
		part{srcs(reg(1), lit(ref(51))), nil},
		part{srcs(reg(1), lit(ref(51)), lit(num(5))), nil},
		part{srcs(reg(1), lit(ref(51)), lit(num(5)), lit(num(5))), nil},
		part{srcs(reg(1), lit(ref(51)), lit(num(5)), lit(num(5)), self()), nil},
		part{srcs(reg(1), lit(ref(51)), lit(num(5)), lit(num(5)), self(), reg(0)), code(ret(self()))})
}

func TestPushInt(t *testing.T) {
	for _, a := range []int{0, 1, 2047, 2048, 2049, 4094, 4095} {
		generates(t, method(0, 1, in(8, a), in(17)),
			part{nil, nil},
			part{srcs(lit(num(a - 2048))), code(ret(lit(num(a - 2048))))})
	}
}

func TestOperandsThatAreNotMentioned(t *testing.T) {
	generates(t, method(2, 4, in(1, 1, 4095), in(6, 4095, 4095), in(9, 4095, 7), in(10, 4095, 7), in(13, 2, 4095), in(2, 0, 9), in(18, 4095, 4095)),
		part{nil, nil},
		part{srcs(reg(1)), nil},
		part{srcs(reg(1), self()), nil},
		part{srcs(reg(1), self(), self()), nil},
		part{srcs(reg(1), self()), code(arith(2, reg(2), reg(1), self()))},
		part{srcs(reg(2)), code(move(reg(0), reg(2)))},
		part{nil, code(ret(self()))})
}

func TestDupAndDrop(t *testing.T) {
	// The word at home is noted twice, and so both notes name the lower home.
	generates(t, method(2, 4, in(4, 9), in(9), in(9), in(10), in(13, 2), in(10), in(18)),
		part{nil, code(load(9, reg(2)))},
		part{srcs(reg(2)), nil},
		part{srcs(reg(2), reg(2)), nil},
		part{srcs(reg(2), reg(2), reg(2)), nil},
		part{srcs(reg(2), reg(2)), code(arith(2, reg(2), reg(2), reg(2)))},
		part{srcs(reg(2)), nil},
		part{nil, code(ret(self()))})
}

func TestPopTemp(t *testing.T) {
	// Not on the stack: a move alone.
	generates(t, method(2, 3, in(1, 1), in(8, 2050), in(2, 0), in(17)),
		part{nil, nil},
		part{srcs(reg(1)), nil},
		part{srcs(reg(1), lit(num(2))), code(move(reg(0), lit(num(2))))},
		part{srcs(reg(1)), code(ret(reg(1)))})
	// Once.
	generates(t, method(2, 3, in(1, 1), in(6), in(2, 1), in(17)),
		part{nil, nil},
		part{srcs(reg(1)), nil},
		part{srcs(reg(1), self()), code(move(reg(2), reg(1)), move(reg(1), self()))},
		part{srcs(reg(2)), code(ret(reg(2)))})
	// Several times, from the bottom on; the others remain as they are noted.
	generates(t, method(2, 6, in(1, 1), in(1, 0), in(1, 1), in(9), in(3, 0), in(1, 0), in(2, 1), in(18)),
		part{nil, nil},
		part{srcs(reg(1)), nil},
		part{srcs(reg(1), reg(0)), nil},
		part{srcs(reg(1), reg(0), reg(1)), nil},
		part{srcs(reg(1), reg(0), reg(1), reg(1)), nil},
		part{srcs(reg(1), reg(0), reg(1), reg(1), lit(ref(50))), nil},
		part{srcs(reg(1), reg(0), reg(1), reg(1), lit(ref(50)), reg(0)), code(move(reg(2), reg(1)), move(reg(4), reg(1)), move(reg(5), reg(1)), move(reg(1), reg(0)))},
		part{srcs(reg(2), reg(0), reg(4), reg(5), lit(ref(50))), code(ret(self()))})
	// Its own register: nothing, whatever else is noted.
	generates(t, method(2, 3, in(1, 1), in(9), in(2, 1), in(17)),
		part{nil, nil},
		part{srcs(reg(1)), nil},
		part{srcs(reg(1), reg(1)), nil},
		part{srcs(reg(1)), code(ret(reg(1)))})
	// What is at home, alone and once more below.
	generates(t, method(2, 3, in(4, 3), in(9), in(2, 0), in(2, 1), in(18)),
		part{nil, code(load(3, reg(2)))},
		part{srcs(reg(2)), nil},
		part{srcs(reg(2), reg(2)), code(move(reg(0), reg(2)))},
		part{srcs(reg(2)), code(move(reg(1), reg(2)))},
		part{nil, code(ret(self()))})
}

func TestFields(t *testing.T) {
	generates(t, method(2, 3, in(4, 0), in(6), in(4, 4095), in(5, 7), in(5, 4095), in(5, 0), in(18)),
		part{nil, code(load(0, reg(2)))},
		part{srcs(reg(2)), nil},
		part{srcs(reg(2), self()), code(load(4095, reg(4)))},
		part{srcs(reg(2), self(), reg(4)), code(store(7, reg(4)))},
		part{srcs(reg(2), self()), code(store(4095, self()))},
		part{srcs(reg(2)), code(store(0, reg(2)))},
		part{nil, code(ret(self()))})
	// What is popped and pushed again goes to the same home.
	generates(t, method(2, 3, in(1, 1), in(4, 8), in(10), in(4, 9), in(17)),
		part{nil, nil},
		part{srcs(reg(1)), code(load(8, reg(3)))},
		part{srcs(reg(1), reg(3)), nil},
		part{srcs(reg(1)), code(load(9, reg(3)))},
		part{srcs(reg(1), reg(3)), code(ret(reg(3)))})
}

func TestArith(t *testing.T) {
	for kind := range 8 {
		// The lower operand is x; what remains stays where it is noted.
		generates(t, method(2, 3, in(6), in(1, 1), in(3, 2), in(13, kind), in(13, kind), in(17)),
			part{nil, nil},
			part{srcs(self()), nil},
			part{srcs(self(), reg(1)), nil},
			part{srcs(self(), reg(1), lit(num(-3000))), code(arith(kind, reg(3), reg(1), lit(num(-3000))))},
			part{srcs(self(), reg(3)), code(arith(kind, reg(2), self(), reg(3)))},
			part{srcs(reg(2)), code(ret(reg(2)))})
	}
}

// rising are the parts of instructions that push these sources, without code.
func rising(l ...api.Src) []part {
	var parts []part
	for k := range l {
		parts = append(parts, part{l[:k], nil})
	}
	return parts
}

func TestSend(t *testing.T) {
	// The receiver below its arguments, the last of these on top.
	stack := srcs(reg(0), lit(num(0)), lit(num(1)), lit(num(2)), lit(num(3)), lit(num(4)))
	for args := range 5 {
		m := method(1, 6, in(1), in(8, 2048), in(8, 2049), in(8, 2050), in(8, 2051), in(8, 2052), in(11, 3, args), in(17))
		b := 5 - args
		d := reg(1 + b)
		generates(t, m, append(rising(stack...),
			part{stack, code(send(0, ref(53), d, stack[b:]...))},
			part{slices.Concat(stack[:b], srcs(d)), code(ret(d))})...)
	}
}

func TestSitesAndSelectors(t *testing.T) {
	// Each send has the next site; one that no way reaches has none, and Super has none either.
	generatesSome(t, method(0, 3, in(6), in(11, 0), in(11, 1), in(14, 5), in(11, 2, 1), in(12, 2), in(11, 1), in(11, 0), in(17)), []int{4},
		part{nil, nil},
		part{srcs(self()), code(send(0, ref(50), reg(0), self()))},
		part{srcs(reg(0)), code(send(1, ref(51), reg(0), reg(0)))},
		part{srcs(reg(0)), code(jump(5))},
		unreached(),
		part{srcs(reg(0)), code(trap())},
		part{srcs(reg(0)), code(send(2, ref(51), reg(0), reg(0)))},
		part{srcs(reg(0)), code(send(3, ref(50), reg(0), reg(0)))},
		part{srcs(reg(0)), code(ret(reg(0)))})
}

func TestJump(t *testing.T) {
	generates(t, method(1, 4, in(1), in(4, 1), in(9), in(6), in(14, 5), in(18)),
		part{nil, nil},
		part{srcs(reg(0)), code(load(1, reg(2)))},
		part{srcs(reg(0), reg(2)), nil},
		part{srcs(reg(0), reg(2), reg(2)), nil},
		part{srcs(reg(0), reg(2), reg(2), self()), code(move(reg(1), reg(0)), move(reg(3), reg(2)), move(reg(4), self()), jump(5))},
		part{regs(1, 5), code(ret(self()))})
}

func TestBranches(t *testing.T) {
	for _, x := range []struct{ op, wanted int }{{15, 1}, {16, 0}} {
		// What is on the stack is brought home ahead of it, also the word that it pops.
		generates(t, method(1, 3, in(1), in(6), in(x.op, 5), in(10), in(18), in(17)),
			part{nil, nil},
			part{srcs(reg(0)), code(move(reg(1), reg(0)), move(reg(2), self()))},
			part{srcs(reg(1), reg(2)), code(branch(5, x.wanted, reg(2)))},
			part{srcs(reg(1)), nil},
			part{nil, code(ret(self()))},
			part{srcs(reg(1)), code(ret(reg(1)))})
	}
	// One behind the other, both ways to the same place.
	generates(t, method(1, 3, in(6), in(9), in(15, 4), in(14, 4), in(16, 5), in(18)),
		part{nil, nil},
		part{srcs(self()), code(move(reg(1), self()), move(reg(2), self()))},
		part{srcs(reg(1), reg(2)), code(branch(4, 1, reg(2)))},
		part{srcs(reg(1)), code(jump(4))},
		part{srcs(reg(1)), code(branch(5, 0, reg(1)))},
		part{nil, code(ret(self()))})
}

func TestReturns(t *testing.T) {
	// What remains stays where it is noted.
	generates(t, method(2, 3, in(1, 1), in(6), in(1, 0), in(17)),
		part{nil, nil},
		part{srcs(reg(1)), nil},
		part{srcs(reg(1), self()), nil},
		part{srcs(reg(1), self(), reg(0)), code(ret(reg(0)))})
	generates(t, method(2, 3, in(1, 1), in(8, 0), in(18)),
		part{nil, nil},
		part{srcs(reg(1)), nil},
		part{srcs(reg(1), lit(num(-2048))), code(ret(self()))})
	// Also ahead of a leader.
	generates(t, method(1, 3, in(6), in(9), in(15, 5), in(1), in(17), in(17)),
		part{nil, nil},
		part{srcs(self()), code(move(reg(1), self()), move(reg(2), self()))},
		part{srcs(reg(1), reg(2)), code(branch(5, 1, reg(2)))},
		part{srcs(reg(1)), nil},
		part{srcs(reg(1), reg(0)), code(ret(reg(0)))},
		part{srcs(reg(1)), code(ret(reg(1)))})
	generates(t, method(1, 3, in(6), in(9), in(15, 5), in(1), in(18), in(17)),
		part{nil, nil},
		part{srcs(self()), code(move(reg(1), self()), move(reg(2), self()))},
		part{srcs(reg(1), reg(2)), code(branch(5, 1, reg(2)))},
		part{srcs(reg(1)), nil},
		part{srcs(reg(1), reg(0)), code(ret(self()))},
		part{srcs(reg(1)), code(ret(reg(1)))})
}

func TestTraps(t *testing.T) {
	// Nothing is brought home ahead of them; behind them all is at home.
	for _, op := range []int{7, 19} {
		generates(t, method(2, 4, in(1, 1), in(6), in(op, 2, 9), in(13, 1), in(17)),
			part{nil, nil},
			part{srcs(reg(1)), nil},
			part{srcs(reg(1), self()), code(trap())},
			part{regs(2, 5), code(arith(1, reg(3), reg(3), reg(4)))},
			part{regs(2, 4), code(ret(reg(3)))})
	}
	stack := srcs(reg(0), reg(0), reg(0), reg(0), reg(0), self())
	for args := range 5 {
		m := method(1, 6, in(1), in(1), in(1), in(1), in(1), in(6), in(12, 2, args), in(10), in(18))
		generates(t, m, append(rising(stack...),
			part{stack, code(trap())},
			part{regs(1, 7-args), nil},
			part{regs(1, 6-args), code(ret(self()))})...)
	}
	// One behind the other.
	generates(t, method(1, 4, in(1), in(7), in(19), in(12, 0, 1), in(12, 0, 1), in(17)),
		part{nil, nil},
		part{srcs(reg(0)), code(trap())},
		part{regs(1, 3), code(trap())},
		part{regs(1, 4), code(trap())},
		part{regs(1, 3), code(trap())},
		part{regs(1, 2), code(ret(reg(1)))})
}
