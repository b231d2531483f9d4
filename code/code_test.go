package code_test

import (
	"math"
	"slices"
	"testing"

	"tappet/api"
	"tappet/code"
	"tappet/heap"
)

// ref and num are words, worked out from chapter 1's sentences.
func ref(at int) api.Word { return api.Word(2 * at) }
func num(n int) api.Word  { return api.Word(2*n + 1) }

// ins is the word of an instruction, worked out from P4.1's sum.
func ins(op, a, b int) api.Word { return num(op + 64*a + 262144*b) }

// wrongOps and wrongOperands are next to what may be, far from it, and such that they would be right if bits were cut off.
var (
	wrongOps      = []int{math.MinInt, -64, -23, -1, 0, 24, 25, 63, 64, 65, 64 + 11, 262144 + 1, 1<<32 + 1, 1<<62 + 1, math.MaxInt}
	wrongOperands = []int{math.MinInt, -4096, -4095, -1, 4096, 4097, 8191, 262144, 1 << 32, 1 << 58, 1 << 62, math.MaxInt}
)

// P4.1

func TestPackExample(t *testing.T) {
	if w, e := code.Pack(api.Instr{Op: 11, A: 2, B: 1}); w != num(262283) || e != api.OK {
		t.Errorf("Pack({11 2 1}) = %d, %d", w, e)
	}
	if i, e := code.Unpack(num(24)); i != (api.Instr{}) || e != api.ErrMethod {
		t.Errorf("Unpack(24) = %v, %d", i, e)
	}
}

// checkPacked: is an instruction's word P4.1's, and is it taken back to the instruction?
func checkPacked(t *testing.T, i api.Instr) {
	t.Helper()
	w, e := code.Pack(i)
	if w != ins(i.Op, i.A, i.B) || e != api.OK {
		t.Fatalf("Pack(%v) = %d, %d, want %d", i, w, e, ins(i.Op, i.A, i.B))
	}
	if j, e := code.Unpack(w); j != i || e != api.OK {
		t.Fatalf("Unpack(%d) = %v, %d, want %v", w, j, e, i)
	}
}

func TestPackAndUnpack(t *testing.T) {
	few := []int{0, 1, 2, 63, 64, 65, 2047, 2048, 2053, 4094, 4095}
	for op := 1; op <= 23; op++ {
		for n := range 4096 {
			for _, m := range few {
				checkPacked(t, api.Instr{Op: op, A: n, B: m})
				checkPacked(t, api.Instr{Op: op, A: m, B: n})
			}
		}
	}
}

func TestPackOfWrongInstructions(t *testing.T) {
	wrong := func(i api.Instr) {
		t.Helper()
		if w, e := code.Pack(i); w != 0 || e != api.ErrArg {
			t.Errorf("Pack(%v) = %d, %d, want 0, ErrArg", i, w, e)
		}
	}
	for _, op := range wrongOps {
		wrong(api.Instr{Op: op})
		wrong(api.Instr{Op: op, A: 4095, B: 4095})
		wrong(api.Instr{Op: op, A: -1, B: 4096})
	}
	for _, n := range wrongOperands {
		for _, op := range []int{1, 11, 23} {
			wrong(api.Instr{Op: op, A: n})
			wrong(api.Instr{Op: op, A: n, B: 4095})
			wrong(api.Instr{Op: op, B: n})
			wrong(api.Instr{Op: op, A: 4095, B: n})
			wrong(api.Instr{Op: op, A: n, B: n})
		}
	}
}

// noInstructions are words that no instruction has.
func noInstructions() []api.Word {
	list := []api.Word{
		0, 2, ref(11), ref(262283), 1<<32 - 2, 1 << 63, math.MaxUint64 - 1, // no integers
		num(0), num(64), num(262144), num(24), num(63), num(64*4095 + 24), num(262144*4095 + 63), // no operation
		num(-1), num(-2), num(-23), num(-40), num(-41), num(-63), num(-64), num(-262283), num(-1 << 62), math.MaxUint64, // below 0
		num(-262144 + 1), num(-1<<30 + 1), num(-1<<30 + 23), num(-1<<62 + 1), num(-1<<62 + 11), // whose low bits are an operation's
		num(1<<30 + 1), num(1<<30 + 23), num(1<<31 + 11), num(1<<32 + 1), num(1<<61 + 1), num(1<<62 - 1), // more than Op, A and B hold
	}
	for _, op := range []int{0, 24, 25, 62, 63} {
		list = append(list, ins(op, 0, 0), ins(op, 4095, 0), ins(op, 0, 4095), ins(op, 1, 1))
	}
	for bit := 30; bit < 62; bit++ {
		list = append(list, num(1<<bit), num(1<<bit+11), num(1<<bit+1<<30-41))
	}
	return list
}

func TestUnpackOfOtherWords(t *testing.T) {
	for _, w := range noInstructions() {
		if i, e := code.Unpack(w); i != (api.Instr{}) || e != api.ErrMethod {
			t.Errorf("Unpack(%d) = %v, %d, want none, ErrMethod", w, i, e)
		}
	}
}

func TestUnpackAtTheGreatestInstruction(t *testing.T) {
	// The integers from {0 4095 4095} on, beyond 2^30.
	for op := range 200 {
		i, e := code.Unpack(num(1<<30 - 64 + op))
		want, number := api.Instr{}, api.ErrMethod
		if op >= 1 && op <= 23 {
			want, number = api.Instr{Op: op, A: 4095, B: 4095}, api.OK
		}
		if i != want || e != number {
			t.Errorf("Unpack of 2^30 - 64 + %d = %v, %d, want %v, %d", op, i, e, want, number)
		}
	}
}

func TestUnpackIsPackBackwards(t *testing.T) {
	// Each integer of a stretch, those below 0 among them, is an instruction's or none's.
	for n := -70000; n < 600000; n++ {
		i, e := code.Unpack(num(n))
		if right := n > 0 && n%64 >= 1 && n%64 <= 23; right != (e == api.OK) {
			t.Fatalf("Unpack of %d = %v, %d", n, i, e)
		}
		if e == api.OK {
			checkPacked(t, i)
		}
	}
}

// P4.2

// method is one that may be, with as many literals and instructions.
func method(lits, instrs int) api.Method {
	m := api.Method{Args: 1, Temps: 2, Stack: 3, Prim: 4}
	for k := range lits {
		m.Lits = append(m.Lits, num(100+k))
	}
	for k := range instrs {
		m.Code = append(m.Code, api.Instr{Op: 1 + k%23, A: k, B: 4095 - k})
	}
	return m
}

// changed is a method with a change.
func changed(change func(*api.Method)) api.Method {
	m := method(2, 3)
	change(&m)
	return m
}

// rightMethods are at the edges of what Check accepts.
func rightMethods() []api.Method {
	list := []api.Method{{Code: []api.Instr{{Op: 18}}}, method(32, 128)}
	for _, c := range []struct{ args, temps int }{{0, 0}, {0, 1}, {0, 16}, {1, 1}, {3, 3}, {4, 4}, {4, 5}, {4, 16}} {
		list = append(list, changed(func(m *api.Method) { m.Args, m.Temps = c.args, c.temps }))
	}
	for _, n := range []int{0, 1, 15, 16} {
		list = append(list, changed(func(m *api.Method) { m.Stack = n }))
	}
	for _, n := range []int{0, 1, 254, 255} {
		list = append(list, changed(func(m *api.Method) { m.Prim = n }))
	}
	for _, n := range []int{0, 1, 31, 32} {
		list = append(list, method(n, 1), method(n, 2))
	}
	for _, n := range []int{1, 2, 127, 128} {
		list = append(list, method(0, n), method(3, n))
	}
	for _, op := range []int{1, 23} {
		for _, n := range []int{0, 4095} {
			list = append(list, changed(func(m *api.Method) { m.Code[2] = api.Instr{Op: op, A: n, B: 4095 - n} }))
			list = append(list, changed(func(m *api.Method) { m.Code[0] = api.Instr{Op: op, A: n, B: n} }))
		}
	}
	return list
}

// wrongMethods are next to them, beyond the edge.
func wrongMethods() []api.Method {
	list := []api.Method{{}, method(2, 0), method(0, 0), method(32, 0), method(33, 1), method(34, 2), method(1000, 3), method(0, 129), method(32, 129), method(33, 128), method(0, 1000)}
	list = append(list, changed(func(m *api.Method) { m.Code = []api.Instr{} }))
	for _, c := range []struct{ args, temps int }{
		{-1, -1}, {-1, 0}, {-1, 16}, {5, 5}, {5, 16}, {5, 4}, {0, -1}, {1, 0}, {2, 1}, {4, 3}, {0, 17}, {4, 17}, {17, 17},
		{math.MinInt, 3}, {math.MaxInt, math.MaxInt}, {0, math.MaxInt}, {0, math.MinInt}, {1<<32 + 1, 2}, {1, 1<<32 + 2},
	} {
		list = append(list, changed(func(m *api.Method) { m.Args, m.Temps = c.args, c.temps }))
	}
	for _, n := range []int{math.MinInt, -1, 17, 18, 1 << 32, 1 << 62, math.MaxInt} {
		list = append(list, changed(func(m *api.Method) { m.Stack = n }))
	}
	for _, n := range []int{math.MinInt, -1, 256, 257, 1 << 32, 1 << 62, math.MaxInt} {
		list = append(list, changed(func(m *api.Method) { m.Prim = n }))
	}
	for k := range 3 {
		for _, op := range wrongOps {
			list = append(list, changed(func(m *api.Method) { m.Code[k].Op = op }))
		}
		for _, n := range wrongOperands {
			list = append(list, changed(func(m *api.Method) { m.Code[k].A = n }))
			list = append(list, changed(func(m *api.Method) { m.Code[k].B = n }))
		}
	}
	last := method(0, 128)
	last.Code[127].Op = 24
	return append(list, last)
}

func TestCheck(t *testing.T) {
	for _, m := range rightMethods() {
		if e := code.Check(m); e != api.OK {
			t.Errorf("Check(%v) = %d, want OK", m, e)
		}
	}
	for _, m := range wrongMethods() {
		if e := code.Check(m); e != api.ErrMethod {
			t.Errorf("Check(%v) = %d, want ErrMethod", m, e)
		}
	}
}

func TestCheckTakesAnyLiterals(t *testing.T) {
	// Which literals are valid depends on the heap, which Check does not see.
	m := method(0, 1)
	m.Lits = []api.Word{0, 2, num(0), 1 << 40, 1 << 63, math.MaxUint64, math.MaxUint64 - 1}
	if e := code.Check(m); e != api.OK {
		t.Errorf("Check = %d", e)
	}
}

// P1: nothing is changed of what comes in.

func TestMethodsStayAsTheyAre(t *testing.T) {
	m := method(3, 4)
	row := append(slices.Clone(m.Lits), num(7), num(8))
	m.Lits = row[:3]
	lits, list := slices.Clone(row), slices.Clone(m.Code)
	h, _ := heap.New(64)
	code.Check(m)
	w, e := code.Write(h, 0, m)
	if e != api.OK || !slices.Equal(row, lits) || !slices.Equal(m.Code, list) {
		t.Fatalf("Write = %d, %d: %v, %v, were %v, %v", w, e, row, m.Code, lits, list)
	}
	// Nor is it kept.
	m.Lits[0], m.Code[0].Op = num(55), 9
	got, _ := code.Read(h, w)
	if got.Lits[0] != lits[0] || got.Code[0] != list[0] {
		t.Errorf("the object has changed with the lists: %v", got)
	}
	// What is read is neither the heap's nor another answer's.
	got.Lits[1], got.Code[1].Op = num(66), 9
	if again, _ := code.Read(h, w); again.Lits[1] != lits[1] || again.Code[1] != list[1] {
		t.Errorf("the object has changed with the answer: %v", again)
	}
}
