package gen_test

import (
	"slices"
	"testing"

	"tappet/api"
	"tappet/gen"
	"tappet/ir"
	"tappet/verify"
)

// The model is the chapter's sentences, one by one, on lists that are never changed: what an instruction does with a simulated stack is a stack and a list of instructions.

// modelLeaders are the leaders, by their sentence; that they are reached is asked where they are used.
func modelLeaders(m api.Method, depths []int) map[int]bool {
	leaders := map[int]bool{0: true}
	for k, i := range m.Code {
		if depths[k] == -1 {
			continue
		}
		if i.Op == 14 || i.Op == 15 || i.Op == 16 {
			leaders[i.A] = true
		}
		if i.Op == 15 || i.Op == 16 {
			leaders[k] = true
		}
		if i.Op == 15 || i.Op == 16 || i.Op == 7 || i.Op == 19 || i.Op == 12 {
			leaders[k+1] = true
		}
	}
	return leaders
}

// atHome is a stack of a depth at home.
func atHome(m api.Method, depth int) []api.Src { return regs(m.Temps, m.Temps+depth) }

// brought is what brings some of a stack home, and the stack then.
func brought(m api.Method, stack []api.Src, which func(s api.Src) bool) ([]api.Src, []api.Ins) {
	stack = slices.Clone(stack)
	var moves []api.Ins
	for d, home := range atHome(m, len(stack)) {
		if stack[d] != home && which(stack[d]) {
			moves = append(moves, move(home, stack[d]))
			stack[d] = home
		}
	}
	return stack, moves
}

func all(api.Src) bool { return true }

// modelRow is the row of the table for an instruction: the stack behind it, its code, and whether all else is said of it there.
func modelRow(m api.Method, i api.Instr, led bool, site int, stack []api.Src) ([]api.Src, []api.Ins, bool) {
	pops := map[int]int{10: 1, 2: 1, 5: 1, 13: 2, 11: i.B + 1, 15: 1, 16: 1, 17: 1}[i.Op]
	b := len(stack) - pops
	rest, popped := slices.Clone(stack[:b]), stack[b:]
	home := reg(m.Temps + b)
	var moves []api.Ins
	if led && (i.Op == 13 || i.Op == 11) || i.Op == 14 {
		rest, moves = brought(m, rest, all)
	}
	switch i.Op {
	case 1:
		return append(rest, reg(i.A)), nil, false
	case 3:
		return append(rest, lit(m.Lits[i.A])), nil, false
	case 8:
		return append(rest, lit(num(i.A-2048))), nil, false
	case 6:
		return append(rest, self()), nil, false
	case 9:
		return append(rest, rest[b-1]), nil, false
	case 10:
		return rest, nil, false
	case 2:
		if popped[0] == reg(i.A) {
			return rest, nil, false
		}
		rest, moves = brought(m, rest, func(s api.Src) bool { return s == reg(i.A) })
		return rest, append(moves, move(reg(i.A), popped[0])), false
	case 4:
		return append(rest, home), code(load(i.A, home)), false
	case 5:
		return rest, code(store(i.A, popped[0])), false
	case 13:
		return append(rest, home), append(moves, arith(i.A, home, popped[0], popped[1])), true
	case 11:
		return append(rest, home), append(moves, send(site, m.Lits[i.A], home, popped...)), true
	case 14:
		return rest, append(moves, jump(i.A)), true
	case 15, 16:
		return rest, code(branch(i.A, 16-i.Op, popped[0])), true
	case 17:
		return rest, code(ret(popped[0])), true
	case 18:
		return rest, code(ret(self())), true
	}
	return rest, code(trap()), true
}

// modelParts is what Gen makes of a method that it does not refuse.
func modelParts(m api.Method, depths []int) (parts []part, gone []int) {
	leaders := modelLeaders(m, depths)
	var stack []api.Src
	sites := 0
	for k, i := range m.Code {
		if depths[k] == -1 {
			parts, gone = append(parts, part{}), append(gone, k)
			continue
		}
		if leaders[k] {
			stack = atHome(m, depths[k])
		}
		after, ins, done := modelRow(m, i, leaders[k+1], sites, stack)
		if !done && leaders[k+1] {
			var moves []api.Ins
			after, moves = brought(m, after, all)
			ins = append(ins, moves...)
		}
		if i.Op == 11 {
			sites++
		}
		parts = append(parts, part{stack, ins})
		stack = after
	}
	return parts, gone
}

func modelGen(m api.Method, w api.Word) (api.Unit, api.Errno) {
	depths, _, e := verify.Depths(m)
	if e != api.OK {
		return api.Unit{}, api.ErrMethod
	}
	if slices.ContainsFunc(m.Code, func(i api.Instr) bool { return i.Op >= 20 }) {
		return api.Unit{}, api.ErrTrap
	}
	for k, i := range m.Code {
		if depths[k] >= 0 && (i.Op == 3 || i.Op == 11) && m.Lits[i.A] == 0 {
			return api.Unit{}, api.ErrMethod
		}
	}
	if w == 0 {
		return api.Unit{}, api.ErrMethod
	}
	parts, gone := modelParts(m, depths)
	u := unit(m, gone, parts...)
	u.Method = w
	return u, api.OK
}

// asTheModel holds Gen against the model.
func asTheModel(t *testing.T, m api.Method, w api.Word) api.Errno {
	t.Helper()
	want, wantE := modelGen(m, w)
	u, e := gen.Gen(m, w)
	if e != wantE || !sameUnit(u, want) {
		t.Fatalf("Gen(%v, %d) = error %d,\n%v, want error %d,\n%v", m, w, e, u, wantE, want)
	}
	if e == api.OK && ir.Check(u) != api.OK {
		t.Fatalf("Check of Gen(%v, %d) = error", m, w)
	}
	return e
}

func TestRandomMethodsAsTheModel(t *testing.T) {
	told := map[api.Errno]int{}
	for seed := range 6000 {
		d := newDice(seed)
		m := d.method()
		w := ref(seed % 50)
		if d.below(3) == 0 {
			d.disturb(&m)
		}
		told[asTheModel(t, m, w)]++
	}
	if told[api.OK] < 3000 || told[api.ErrMethod] < 300 || told[api.ErrTrap] < 100 {
		t.Errorf("too few of a kind: %v", told)
	}
}

func TestAllShortMethodsAsTheModel(t *testing.T) {
	set := []api.Instr{in(1), in(2), in(3), in(3, 1), in(4, 1), in(9), in(10), in(11), in(11, 1, 1), in(13, 5), in(14, 1), in(14, 3), in(15, 2), in(16), in(7), in(17), in(18), in(23)}
	n, fine := len(set), 0
	for k := range n * n * n * n {
		m := api.Method{Temps: 1, Stack: 2, Lits: []api.Word{ref(7), 0}}
		for range 4 {
			m.Code = append(m.Code, set[k%n])
			k /= n
		}
		if asTheModel(t, m, ref(3)) == api.OK {
			fine++
		}
	}
	if fine < 2000 {
		t.Errorf("only %d methods were translated", fine)
	}
}
