package gen_test

import (
	"slices"
	"testing"

	"tappet/api"
)

// P12.1: leaders, and what is brought home ahead of them.

// kind is an instruction on the stack r0 self r0 of a method with one temporary, and what the table says of it: its own code, the simulated stack behind it where the next instruction is no leader, and where it is one what is brought home, ahead of its code or behind it.
type kind struct {
	what          string
	i             api.Instr
	code          []api.Ins
	after         []api.Src
	ahead, behind []api.Ins
}

func kinds() []kind {
	low, middle, top := reg(1), reg(2), reg(3)
	first, second, third := move(low, reg(0)), move(middle, self()), move(top, reg(0))
	return []kind{
		{"PushTemp", in(1), nil, srcs(reg(0), self(), reg(0), reg(0)), nil, code(first, second, third, move(reg(4), reg(0)))},
		{"PushLit", in(3, 1), nil, srcs(reg(0), self(), reg(0), lit(ref(51))), nil, code(first, second, third, move(reg(4), lit(ref(51))))},
		{"PushInt", in(8, 2047), nil, srcs(reg(0), self(), reg(0), lit(num(-1))), nil, code(first, second, third, move(reg(4), lit(num(-1))))},
		{"PushSelf", in(6), nil, srcs(reg(0), self(), reg(0), self()), nil, code(first, second, third, move(reg(4), self()))},
		{"Dup", in(9), nil, srcs(reg(0), self(), reg(0), reg(0)), nil, code(first, second, third, move(reg(4), reg(0)))},
		{"Drop", in(10), nil, srcs(reg(0), self()), nil, code(first, second)},
		{"PopTemp", in(2), nil, srcs(reg(0), self()), nil, code(first, second)},
		{"PushField", in(4, 6), code(load(6, reg(4))), srcs(reg(0), self(), reg(0), reg(4)), nil, code(first, second, third)},
		{"PopField", in(5, 6), code(store(6, reg(0))), srcs(reg(0), self()), nil, code(first, second)},
		{"Arith", in(13, 6), code(arith(6, middle, self(), reg(0))), srcs(reg(0), middle), code(first), nil},
		{"Send", in(11, 3, 1), code(send(0, ref(53), middle, self(), reg(0))), srcs(reg(0), middle), code(first), nil},
		{"Send of one", in(11, 3), code(send(0, ref(53), top, reg(0))), srcs(reg(0), self(), top), code(first, second), nil},
		{"Send of all", in(11, 3, 2), code(send(0, ref(53), low, reg(0), self(), reg(0))), srcs(low), nil, nil},
		{"Jump", in(14, 4), code(first, second, third, jump(4)), regs(1, 4), nil, nil},
		{"PushContext", in(7), code(trap()), regs(1, 5), nil, nil},
		{"PushBlock", in(19), code(trap()), regs(1, 5), nil, nil},
		{"Super", in(12), code(trap()), regs(1, 4), nil, nil},
		{"Super of all", in(12, 0, 2), code(trap()), regs(1, 2), nil, nil},
	}
}

// homes are the home places, with one temporary, of as many words as there are.
func homes(l []api.Src) []api.Src { return regs(1, 1+len(l)) }

func TestEachKindAheadOfNoLeader(t *testing.T) {
	for _, k := range kinds() {
		m := method(1, 4, in(1), in(6), in(1), k.i, in(18))
		t.Log(k.what)
		generates(t, m, append(rising(reg(0), self(), reg(0)),
			part{srcs(reg(0), self(), reg(0)), k.code},
			part{k.after, code(ret(self()))})...)
	}
}

func TestEachKindAheadOfALeader(t *testing.T) {
	for _, k := range kinds() {
		// The leader jumps to itself; all is at home there, so that nothing has to be brought.
		m := method(1, 4, in(1), in(6), in(1), k.i, in(14, 4))
		t.Log(k.what)
		generates(t, m, append(rising(reg(0), self(), reg(0)),
			part{srcs(reg(0), self(), reg(0)), slices.Concat(k.ahead, k.code, k.behind)},
			part{homes(k.after), code(jump(4))})...)
	}
}

func TestEachKindAsLeader(t *testing.T) {
	// Come to with all at home, by the jump ahead of it, and not ahead of a leader.
	three := regs(1, 4)
	for _, k := range []struct {
		i     api.Instr
		code  []api.Ins
		after []api.Src
	}{
		{in(1), nil, append(regs(1, 4), reg(0))},
		{in(3, 1), nil, append(regs(1, 4), lit(ref(51)))},
		{in(8, 2047), nil, append(regs(1, 4), lit(num(-1)))},
		{in(6), nil, append(regs(1, 4), self())},
		{in(9), nil, append(regs(1, 4), reg(3))},
		{in(10), nil, regs(1, 3)},
		{in(2), code(move(reg(0), reg(3))), regs(1, 3)},
		{in(4, 6), code(load(6, reg(4))), regs(1, 5)},
		{in(5, 6), code(store(6, reg(3))), regs(1, 3)},
		{in(13, 6), code(arith(6, reg(2), reg(2), reg(3))), regs(1, 3)},
		{in(11, 3), code(send(0, ref(53), reg(3), reg(3))), regs(1, 4)},
		{in(11, 3, 2), code(send(0, ref(53), reg(1), three...)), regs(1, 2)},
		{in(14, 5), code(jump(5)), regs(1, 4)},
		{in(15, 5), code(branch(5, 1, reg(3))), regs(1, 3)},
		{in(16, 5), code(branch(5, 0, reg(3))), regs(1, 3)},
		{in(7), code(trap()), regs(1, 5)},
		{in(19), code(trap()), regs(1, 5)},
		{in(12, 0, 1), code(trap()), regs(1, 3)},
	} {
		m := method(1, 4, in(1), in(6), in(1), in(14, 4), k.i, in(18))
		generates(t, m, append(rising(reg(0), self(), reg(0)),
			part{srcs(reg(0), self(), reg(0)), code(move(reg(1), reg(0)), move(reg(2), self()), move(reg(3), reg(0)), jump(4))},
			part{three, k.code},
			part{k.after, code(ret(self()))})...)
	}
}

func TestPopTempAheadOfALeader(t *testing.T) {
	// What is moved for the temporary's sake is at home, and is not moved once more.
	generates(t, method(2, 5, in(1, 0), in(1, 1), in(6), in(1, 1), in(8, 2055), in(2, 1), in(14, 6)),
		append(rising(reg(0), reg(1), self(), reg(1), lit(num(7))),
			part{srcs(reg(0), reg(1), self(), reg(1), lit(num(7))), code(
				move(reg(3), reg(1)), move(reg(5), reg(1)), move(reg(1), lit(num(7))),
				move(reg(2), reg(0)), move(reg(4), self()))},
			part{regs(2, 6), code(jump(6))})...)
	// Its own register, which is all that is popped.
	generates(t, method(2, 2, in(1, 1), in(1, 1), in(2, 1), in(14, 3)),
		part{nil, nil},
		part{srcs(reg(1)), nil},
		part{srcs(reg(1), reg(1)), code(move(reg(2), reg(1)))},
		part{srcs(reg(2)), code(jump(3))})
}

func TestHomeIsNotMoved(t *testing.T) {
	// Of what is at home already nothing is generated; what is noted of a home at a greater depth is brought from there.
	generates(t, method(0, 4, in(4, 1), in(9), in(4, 2), in(9), in(14, 5), in(14, 5)),
		part{nil, code(load(1, reg(0)))},
		part{srcs(reg(0)), nil},
		part{srcs(reg(0), reg(0)), code(load(2, reg(2)))},
		part{srcs(reg(0), reg(0), reg(2)), nil},
		part{srcs(reg(0), reg(0), reg(2), reg(2)), code(move(reg(1), reg(0)), move(reg(3), reg(2)), jump(5))},
		part{regs(0, 4), code(jump(5))})
}

func TestJumpsBack(t *testing.T) {
	// To the first, with an empty stack: it is a leader in any case.
	generates(t, method(1, 1, in(1), in(2), in(14, 0)),
		part{nil, nil},
		part{srcs(reg(0)), nil},
		part{nil, code(jump(0))})
	// Into the middle of what was pushed, by each of the three.
	generates(t, method(1, 3, in(6), in(1), in(10), in(14, 1)),
		part{nil, code(move(reg(1), self()))},
		part{srcs(reg(1)), nil},
		part{srcs(reg(1), reg(0)), nil},
		part{srcs(reg(1)), code(jump(1))})
	for _, x := range []struct{ op, wanted int }{{15, 1}, {16, 0}} {
		generates(t, method(1, 3, in(6), in(1), in(x.op, 1), in(17)),
			part{nil, code(move(reg(1), self()))},
			part{srcs(reg(1)), code(move(reg(2), reg(0)))},
			part{srcs(reg(1), reg(2)), code(branch(1, x.wanted, reg(2)))},
			part{srcs(reg(1)), code(ret(reg(1)))})
	}
}

func TestJumpsToThemselvesAndToTheNext(t *testing.T) {
	generates(t, method(0, 0, in(14, 0)), part{nil, code(jump(0))})
	generates(t, method(0, 0, in(14, 1), in(14, 1)), part{nil, code(jump(1))}, part{nil, code(jump(1))})
	for _, x := range []struct{ op, wanted int }{{15, 1}, {16, 0}} {
		generates(t, method(0, 1, in(6), in(x.op, 2), in(18)),
			part{nil, code(move(reg(0), self()))},
			part{srcs(reg(0)), code(branch(2, x.wanted, reg(0)))},
			part{nil, code(ret(self()))})
	}
}

func TestUnreachedLeadersAreNone(t *testing.T) {
	// What a jump that is not reached leads to is no leader, nor is what a jump that is not reached would make one, so that the words stay where they are noted.
	m := method(1, 2, in(1), in(6), in(10), in(17), in(14, 1), in(15, 2), in(16, 3), in(7), in(19), in(12))
	generatesSome(t, m, []int{4, 5, 6, 7, 8, 9},
		part{nil, nil},
		part{srcs(reg(0)), nil},
		part{srcs(reg(0), self()), nil},
		part{srcs(reg(0)), code(ret(reg(0)))},
		unreached(), unreached(), unreached(), unreached(), unreached(), unreached())
}

func TestUnreached(t *testing.T) {
	// Behind the first, between, and at the end; each operation that a method may have, with what the reached ones would be refused for.
	dead := []api.Instr{in(1), in(2), in(3), in(4, 9), in(5, 9), in(6), in(7), in(8, 9), in(9), in(10), in(11, 0, 4), in(12, 0, 4), in(13, 7), in(14, 1), in(15, 1), in(16, 1), in(17), in(18), in(19)}
	n := len(dead)
	l := []api.Instr{in(14, n+1)}
	l = append(l, dead...)
	l = append(l, in(8, 2049), in(14, 2*n+3))
	l = append(l, dead...)
	l = append(l, in(11, 1), in(17))
	l = append(l, dead...)
	parts := make([]part, len(l))
	var gone []int
	for k := range l {
		switch k {
		case 0:
			parts[k] = part{nil, code(jump(n + 1))}
		case n + 1:
			parts[k] = part{nil, nil}
		case n + 2:
			parts[k] = part{srcs(lit(num(1))), code(move(reg(1), lit(num(1))), jump(2*n+3))}
		case 2*n + 3:
			parts[k] = part{srcs(reg(1)), code(send(0, ref(51), reg(1), reg(1)))}
		case 2*n + 4:
			parts[k] = part{srcs(reg(1)), code(ret(reg(1)))}
		default:
			gone = append(gone, k)
		}
	}
	generatesSome(t, method(1, 1, l...), gone, parts...)
}
