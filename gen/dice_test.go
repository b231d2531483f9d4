package gen_test

import (
	"slices"

	"tappet/api"
)

// dice are numbers that come in the same order in each run.
type dice uint64

func newDice(seed int) *dice {
	d := dice(seed)
	return &d
}

func (d *dice) below(n int) int {
	*d = *d*6364136223846793005 + 1442695040888963407
	return int(*d>>33) % n
}

// of is one of the given numbers.
func (d *dice) of(list ...int) int { return list[d.below(len(list))] }

// operation is one that may stand at a depth.
func (d *dice) operation(depth int, m api.Method) int {
	ops := []int{14}
	if depth < m.Stack {
		ops = append(ops, 3, 4, 6, 7, 8, 19)
		if m.Temps > 0 {
			ops = append(ops, 1, 1, 1, 1)
		}
		if depth > 0 {
			ops = append(ops, 9, 9)
		}
	}
	if depth > 0 {
		ops = append(ops, 5, 10, 11, 11, 12, 15, 16)
		if m.Temps > 0 {
			ops = append(ops, 2, 2, 2)
		}
	}
	if depth > 1 {
		ops = append(ops, 13, 13)
	}
	return d.of(ops...)
}

// operands are such that may be, but for jumps, whose places come later.
func (d *dice) operands(i *api.Instr, depth int, m api.Method) {
	switch i.Op {
	case 1, 2:
		i.A = d.below(m.Temps)
	case 3, 19:
		i.A = d.below(len(m.Lits))
	case 4, 5, 8:
		i.A = d.below(4096)
	case 11, 12:
		i.A, i.B = d.below(len(m.Lits)), d.below(min(depth, 5))
	case 13:
		i.A = d.below(8)
	}
}

// change is by how much the stack is deeper behind an instruction.
func change(i api.Instr) int {
	switch i.Op {
	case 1, 3, 4, 6, 7, 8, 9, 19:
		return 1
	case 2, 5, 10, 13, 15, 16, 17:
		return -1
	case 11, 12:
		return -i.B
	}
	return 0
}

// method is one that has depths: its instructions fit together, with jumps back and forth between equal depths, and some that no way reaches.
func (d *dice) method() api.Method {
	m := api.Method{Temps: d.of(0, 1, 1, 2, 3, 5, 16), Stack: d.of(1, 2, 3, 4, 6, 16), Lits: lits(), Prim: d.below(256)}
	m.Args = d.below(min(m.Temps, 4) + 1)
	depth, before := 0, []int{}
	for n := d.of(0, 2, 5, 10, 20, 40, 110); n > 0; n-- {
		i := in(d.operation(depth, m))
		d.operands(&i, depth, m)
		if d.below(40) == 0 && depth > 0 {
			i = in(d.of(17, 18))
		}
		m.Code, before = append(m.Code, i), append(before, depth)
		if i.Op != 17 { // what follows is come to by a jump, if at all
			depth += change(i)
		}
	}
	if depth == 0 || d.below(2) == 0 {
		m.Code, before = append(m.Code, in(18)), append(before, depth)
	} else {
		m.Code, before = append(m.Code, in(17)), append(before, depth)
	}
	for at, i := range m.Code {
		if i.Op >= 14 && i.Op <= 16 {
			m.Code[at].A = d.place(before, before[at]+change(i))
		}
	}
	return m
}

// place is one of the instructions that have this depth ahead of them.
func (d *dice) place(before []int, depth int) int {
	var list []int
	for at, b := range before {
		if b == depth {
			list = append(list, at)
		}
	}
	return d.of(list...)
}

// disturb changes a few of the numbers of a method.
func (d *dice) disturb(m *api.Method) {
	for n := d.below(3); n >= 0; n-- {
		k := d.below(len(m.Code))
		switch d.below(8) {
		case 0:
			m.Code[k].Op = 1 + d.below(24)
		case 1:
			m.Code[k].A = d.below(len(m.Code) + 1)
		case 2:
			m.Code[k].B = d.below(6)
		case 3:
			m.Stack = d.below(6)
		case 4:
			m.Temps = d.below(5)
		case 5:
			m.Code = slices.Insert(m.Code, k, in(20+d.below(4)))
		case 6:
			m.Lits = slices.Clone(m.Lits)
			m.Lits[d.below(len(m.Lits))] = 0
		case 7:
			m.Code = append(m.Code, in(20+d.below(4)))
		}
	}
}
