package scan_test

import (
	"testing"

	"tappet/api"
	"tappet/gen"
	"tappet/live"
	"tappet/scan"
)

// The intervals of units of methods, as live answers them.

// unit is a method's.
func unit(t *testing.T, m api.Method) api.Unit {
	t.Helper()
	u, e := gen.Gen(m, 14)
	if e != api.OK {
		t.Fatalf("Gen(%v) = error %d", m, e)
	}
	return u
}

// method is one with a selector, and without arguments.
func method(temps, stack int, code ...api.Instr) api.Method {
	return api.Method{Temps: temps, Stack: stack, Lits: []api.Word{100}, Code: code}
}

// intervals are those of a unit.
func intervals(t *testing.T, u api.Unit) []api.Interval {
	t.Helper()
	l, e := live.Intervals(u)
	if e != api.OK {
		t.Fatalf("Intervals(%v) = error %d", u, e)
	}
	return l
}

func TestUnitsOfMethods(t *testing.T) {
	// Chapter 12's example: register 0 from 0 to 4, register 1 from 2 to 3.
	l := intervals(t, unit(t, method(1, 2, api.Instr{Op: 1}, api.Instr{Op: 8, A: 2049}, api.Instr{Op: 13}, api.Instr{Op: 2}, api.Instr{Op: 18})))
	assigns(t, "the example in one register", 1, l, cell(0), reg(0))
	assigns(t, "the example in two registers", 2, l, reg(0), reg(1))
	// Register 0 from 3 to 4, register 1 from 1 to 3.
	l = intervals(t, unit(t, method(0, 3, api.Instr{Op: 6}, api.Instr{Op: 4}, api.Instr{Op: 8, A: 5}, api.Instr{Op: 11, B: 2}, api.Instr{Op: 17})))
	assigns(t, "a send in one register", 1, l, cell(0), reg(0))
	assigns(t, "a send in two registers", 2, l, reg(1), reg(0))
	// Temporaries alone, all through.
	l = intervals(t, unit(t, method(16, 1, api.Instr{Op: 18})))
	assigns(t, "temporaries in one register", 1, l, rows(1, 15)...)
	assigns(t, "temporaries in eight registers", 8, l, rows(8, 8)...)
	assigns(t, "no registers at all", 4, intervals(t, unit(t, method(0, 1, api.Instr{Op: 8, A: 5}, api.Instr{Op: 17}))))
}

// method is one whose instructions fit together, in a row with loops in it.
func (d *dice) method() api.Method {
	m := method(d.of(1, 2, 5, 16), 16)
	depth := 0
	for range d.of(1, 5, 20, 60) {
		i := api.Instr{Op: d.of(1, 4, 6, 8), A: d.below(m.Temps)}
		if depth > 12 || depth > 0 && d.below(5) > 2 {
			i.Op = d.of(2, 4, 5, 9, 10)
		}
		if depth > 12 || depth > 1 && d.below(4) == 0 {
			i = []api.Instr{{Op: 11, B: 1}, {Op: 13}}[d.below(2)]
		}
		switch i.Op {
		case 2, 5, 10, 11, 13:
			depth--
		default:
			depth++
		}
		m.Code = append(m.Code, i)
		if depth == 0 && d.below(8) == 0 {
			m.Code = append(m.Code, api.Instr{Op: 6}, api.Instr{Op: 15})
		}
	}
	m.Code = append(m.Code, api.Instr{Op: 18})
	return m
}

// What a map tells apart stays apart, for the registers in it meet.
func TestRandomMethods(t *testing.T) {
	d := newDice(3)
	for range 1500 {
		u := unit(t, d.method())
		l := intervals(t, u)
		regs := 1 + d.below(8)
		if !follows(t, l, regs) {
			t.Fatalf("the model refuses the intervals %v", l)
		}
		places, _, _ := scan.Assign(l, regs)
		at := map[int]api.Src{}
		for k, i := range l {
			at[i.V] = places[k]
		}
		for _, m := range u.Maps {
			of := map[api.Src]int{}
			for _, s := range m {
				if s.Kind != api.SrcReg {
					continue
				}
				if v, taken := of[at[s.N]]; taken && v != s.N {
					t.Fatalf("registers %d and %d of %v are both at %v", v, s.N, u, at[s.N])
				}
				of[at[s.N]] = s.N
			}
		}
	}
}
