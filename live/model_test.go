package live_test

import (
	"reflect"
	"testing"

	"tappet/api"
	"tappet/gen"
	"tappet/ir"
	"tappet/live"
)

// named are the registers of sources.
func named(l []api.Src) []int {
	var found []int
	for _, s := range l {
		if s == reg(s.N) {
			found = append(found, s.N)
		}
	}
	return found
}

// touched are the registers that the code of a part reads or writes.
func touched(u api.Unit, k int) []int {
	var found []int
	for _, i := range u.Code[u.Starts[k]:u.Starts[k+1]] {
		found = append(found, named(i.L)...)
		switch i.Op {
		case 1, 2, 3, 7:
			found = append(found, named(srcs(i.D))...)
		}
	}
	return found
}

// intervals are a unit's, by a count of all instructions at which each register is used.
func intervals(u api.Unit) []api.Interval {
	counts := make([][]int, u.Regs)
	for k := range u.Maps {
		for _, v := range append(named(u.Maps[k]), touched(u, k)...) {
			if counts[v] == nil {
				counts[v] = make([]int, len(u.Maps))
			}
			counts[v][k]++
		}
	}
	var l []api.Interval
	for v, c := range counts {
		var at []int
		for k := range c {
			if c[k] > 0 {
				at = append(at, k)
			}
		}
		if len(at) > 0 {
			l = append(l, in(v, at[0], at[len(at)-1]))
		}
	}
	return l
}

// P13.3

// bound holds that the registers which a part has at once have intervals that meet.
func bound(t *testing.T, u api.Unit, l []api.Interval) {
	t.Helper()
	of := map[int]api.Interval{}
	for _, i := range l {
		of[i.V] = i
	}
	for k, m := range u.Maps {
		noted := named(m)
		for _, v := range append(touched(u, k), noted...) {
			for _, w := range noted {
				if !live.Meet(of[v], of[w]) || !live.Meet(of[w], of[v]) {
					t.Fatalf("instruction %d of %v: registers %d and %d don't meet in %v", k, u, v, w, l)
				}
			}
		}
	}
}

// follows holds a unit against the count and against P13.3.
func follows(t *testing.T, u api.Unit) {
	t.Helper()
	was := ir.Copy(u)
	uses(t, "a random unit", u, intervals(u)...)
	l, _ := live.Intervals(u)
	bound(t, u, l)
	if !reflect.DeepEqual(u, was) {
		t.Errorf("the unit is %v, was %v", u, was)
	}
	if t.Failed() {
		t.Fatalf("of the unit %v", u)
	}
}

// dice are numbers that come in the same order in each run.
type dice uint64

func newDice(seed int) *dice {
	d := dice(seed)
	return &d
}

func (d *dice) below(n int) int {
	*d = *d*6364136223846793005 + 1442695040888963407
	return int(*d>>33) % n
}

// of is one of the given numbers.
func (d *dice) of(list ...int) int { return list[d.below(len(list))] }

// source is one of a unit, often a register if there is one.
func (d *dice) source(u api.Unit) api.Src {
	if u.Regs > 0 && d.below(3) > 0 {
		return reg(d.below(u.Regs))
	}
	if u.Spills > 0 && d.below(2) > 0 {
		return cell(d.below(u.Spills))
	}
	if d.below(2) > 0 {
		return self()
	}
	return lit(api.Word(1 + d.below(20)))
}

func (d *dice) sources(u api.Unit, n int) []api.Src {
	l := srcs()
	for range n {
		l = append(l, d.source(u))
	}
	return l
}

// instruction is one of a unit with so many parts; a send has no site yet.
func (d *dice) instruction(u api.Unit, parts int) api.Ins {
	place := d.source(u)
	for u.Regs+u.Spills > 0 && place.Kind != 0 && place.Kind != 3 {
		place = d.source(u)
	}
	l := d.sources(u, 5)
	if u.Regs+u.Spills == 0 {
		return []api.Ins{store(l[0]), jump(d.below(parts)), branch(d.below(parts), l[0]), ret(l[0]), trap()}[d.below(5)]
	}
	return []api.Ins{move(place, l[0]), arith(place, l[0], l[1]), load(place), store(l[0]), jump(d.below(parts)), branch(d.below(parts), l[0]), send(place, l[:1+d.below(5)]...), ret(l[0]), trap()}[d.below(9)]
}

// unit is a valid one.
func (d *dice) unit() api.Unit {
	bounds := api.Unit{Temps: d.of(0, 0, 1, 3, 16), Regs: d.of(0, 1, 2, 3, 5, 12, 32, 4096), Spills: d.of(0, 1, 3, 4096)}
	parts := make([]part, d.of(1, 2, 5, 20, 128))
	sites := 0
	for k := range parts {
		if d.below(3) > 0 {
			parts[k].noted = d.sources(bounds, bounds.Temps+d.of(0, 0, 1, 2, 4, 16))
		}
		for n := d.of(0, 0, 1, 1, 2, 3, 10); n > 0; n-- {
			i := d.instruction(bounds, len(parts))
			if i.Op == 7 {
				if sites == 128 {
					continue
				}
				sites++
			}
			parts[k].code = append(parts[k].code, i)
		}
	}
	u := unit(bounds.Regs, bounds.Spills, parts...)
	u.Temps = bounds.Temps
	if bounds.Regs > 0 {
		u.Enter = []api.Ins{move(reg(d.below(bounds.Regs)), d.source(bounds)), move(reg(d.below(bounds.Regs)), d.source(bounds))}
	}
	return u
}

// P13.1 and P13.3
func TestRandomUnits(t *testing.T) {
	d := newDice(1)
	for range 3000 {
		follows(t, d.unit())
	}
}

// method is one whose instructions fit together, in a row with a loop around it; some of them may be behind a return.
func (d *dice) method() api.Method {
	m := api.Method{Temps: d.of(1, 2, 5, 16), Stack: 16, Lits: []api.Word{ref(50)}}
	depth := 0
	for range d.of(1, 5, 20, 60) {
		i := api.Instr{Op: d.of(1, 4, 6, 8), A: d.below(m.Temps)}
		switch {
		case depth > 12 || depth > 2 && d.below(3) == 0:
			i.Op = d.of(2, 5, 10, 11, 13)
		case depth > 0 && d.below(3) == 0:
			i.Op = d.of(2, 5, 9, 10)
		}
		switch i.Op {
		case 11:
			i.A, i.B = 0, 2
			depth -= 2
		case 2, 5, 10, 13:
			i.A = min(i.A, 7)
			if i.Op == 2 {
				i.A = d.below(m.Temps)
			}
			depth--
		default:
			depth++
		}
		m.Code = append(m.Code, i)
		if depth == 0 && d.below(8) == 0 {
			m.Code = append(m.Code, api.Instr{Op: 6}, api.Instr{Op: 15, A: 0})
		}
		if d.below(40) == 0 {
			m.Code = append(m.Code, api.Instr{Op: 18})
			return m
		}
	}
	m.Code = append(m.Code, api.Instr{Op: 18}, api.Instr{Op: 18})
	return m
}

func TestRandomMethods(t *testing.T) {
	d := newDice(2)
	for range 2000 {
		m := d.method()
		u, e := gen.Gen(m, ref(7))
		if e != api.OK {
			t.Fatalf("Gen(%v) = error %d", m, e)
		}
		follows(t, u)
		last := 0
		for k, noted := range u.Maps {
			if len(noted) > 0 {
				last = k
			}
		}
		l, _ := live.Intervals(u)
		for v := range m.Temps {
			if l[v] != in(v, 0, last) {
				t.Errorf("temporary %d of %v has the interval %v, want 0 to %d", v, m, l[v], last)
			}
		}
	}
}

// spoil changes one number of a unit.
func (d *dice) spoil(u *api.Unit) {
	n := d.of(-1, 0, 1, 2, 3, 5, 10, 129, 4096, 4097)
	numbers := []*int{&u.Args, &u.Temps, &u.Regs, &u.Spills, &u.Sites, &u.Starts[d.below(len(u.Starts))]}
	if len(u.Code) > 0 {
		i := &u.Code[d.below(len(u.Code))]
		numbers = append(numbers, &i.Op, &i.N, &i.D.N, &i.D.Kind)
	}
	if m := u.Maps[d.below(len(u.Maps))]; len(m) > 0 {
		s := &m[d.below(len(m))]
		numbers = append(numbers, &s.N, &s.Kind)
	}
	*numbers[d.below(len(numbers))] = n
}

// Units that a change or two make of a valid one are refused where ir.Check refuses them, and have their intervals otherwise.
func TestSpoiledUnits(t *testing.T) {
	d := newDice(3)
	good, bad := 0, 0
	for range 3000 {
		u := d.unit()
		for range 1 + d.below(2) {
			d.spoil(&u)
		}
		if ir.Check(u) == api.OK {
			good++
			follows(t, u)
		} else {
			bad++
			refuses(t, "a spoiled unit", u)
		}
	}
	if good < 300 || bad < 300 {
		t.Errorf("%d spoiled units are valid, %d are not", good, bad)
	}
}
