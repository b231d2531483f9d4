package verify_test

import (
	"slices"
	"testing"

	"tappet/api"
	"tappet/code"
	"tappet/heap"
	"tappet/verify"
)

// ref and num are words, worked out from chapter 1's sentences.
func ref(at int) api.Word { return api.Word(2 * at) }
func num(n int) api.Word  { return api.Word(2*n + 1) }

// in is an instruction.
func in(op int, operands ...int) api.Instr {
	operands = append(operands, 0, 0)
	return api.Instr{Op: op, A: operands[0], B: operands[1]}
}

// row is one of the chapter's table.
type row struct {
	pops, pushes int
	end          bool
}

// rowOf is the chapter's table, operation by operation.
func rowOf(i api.Instr) row {
	return []row{
		1:  {0, 1, false},
		2:  {1, 0, false},
		3:  {0, 1, false},
		4:  {0, 1, false},
		5:  {1, 0, false},
		6:  {0, 1, false},
		7:  {0, 1, false},
		8:  {0, 1, false},
		9:  {1, 2, false},
		10: {1, 0, false},
		11: {i.B + 1, 1, false},
		12: {i.B + 1, 1, false},
		13: {2, 1, false},
		14: {0, 0, false},
		15: {1, 0, false},
		16: {1, 0, false},
		17: {1, 0, true},
		18: {0, 0, true},
		19: {0, 1, false},
		20: {0, 1, false},
		21: {1, 0, false},
		22: {1, 0, true},
		23: {1, 0, true},
	}[i.Op]
}

// successors are an instruction's, beyond the last one too.
func successors(m api.Method, at int) []int {
	switch i := m.Code[at]; {
	case rowOf(i).end:
		return nil
	case i.Op == 14:
		return []int{i.A}
	case i.Op == 15 || i.Op == 16:
		return []int{i.A, at + 1}
	}
	return []int{at + 1}
}

// rightOperands: may A and B be, by the sentences under the table?
func rightOperands(m api.Method, i api.Instr) bool {
	switch i.Op {
	case 1, 2:
		return i.A < m.Temps
	case 3, 19:
		return i.A < len(m.Lits)
	case 11, 12:
		return i.A < len(m.Lits) && i.B <= 4
	case 13:
		return i.A <= 7
	case 14, 15, 16:
		return i.A < len(m.Code)
	}
	return true
}

// place is an instruction and a depth.
type place struct{ at, depth int }

// stuck: does a path that gets here not continue?
func stuck(m api.Method, p place) bool {
	r := rowOf(m.Code[p.at])
	return p.depth < r.pops || p.depth-r.pops+r.pushes > m.Stack
}

// places are all that paths reach: the first, and what follows from those that are there, until nothing new does.
func places(m api.Method) map[place]bool {
	all := map[place]bool{{0, 0}: true}
	for before := 0; before < len(all); {
		before = len(all)
		for at := range m.Code {
			for depth := range 17 {
				if !all[place{at, depth}] || stuck(m, place{at, depth}) {
					continue
				}
				r := rowOf(m.Code[at])
				for _, next := range successors(m, at) {
					if next < len(m.Code) {
						all[place{next, depth - r.pops + r.pushes}] = true
					}
				}
			}
		}
	}
	return all
}

// modelDepths is P5.1, sentence by sentence.
func modelDepths(m api.Method) ([]int, int, api.Errno) {
	if code.Check(m) != api.OK {
		return nil, -1, api.ErrMethod
	}
	for at, i := range m.Code {
		if !rightOperands(m, i) {
			return nil, at, api.ErrMethod
		}
	}
	all := places(m)
	var list []int
	for at := range m.Code {
		var found []int
		for depth := range 17 {
			if all[place{at, depth}] {
				found = append(found, depth)
			}
		}
		wrong := len(found) > 1
		for _, depth := range found {
			wrong = wrong || stuck(m, place{at, depth}) || slices.Contains(successors(m, at), len(m.Code))
		}
		if wrong {
			return nil, at, api.ErrMethod
		}
		list = append(list, append(found, -1)[0])
	}
	return list, -1, api.OK
}

// modelCheck is P5.2, sentence by sentence.
func modelCheck(h *heap.Heap, w api.Word, fields int, outers []int) (int, api.Errno) {
	m, e := code.Read(h, w)
	if e != api.OK || len(outers) > 0 && m.Prim != 0 {
		return -1, api.ErrMethod
	}
	if _, at, e := modelDepths(m); e != api.OK {
		return at, e
	}
	block := len(outers) > 0
	for at, i := range m.Code {
		wrong := false
		switch i.Op {
		case 4, 5:
			wrong = !(i.A < fields)
		case 17, 18:
			wrong = block
		case 22, 23:
			wrong = !block
		case 20, 21:
			wrong = !block || !(1 <= i.A && i.A <= len(outers)) || !(i.B < outers[i.A-1])
		case 19:
			inner := append([]int{m.Temps}, outers...)
			wrong = len(inner) > 2
			if !wrong {
				_, e := modelCheck(h, m.Lits[i.A], fields, inner)
				wrong = e != api.OK
			}
		}
		if wrong {
			return at, api.ErrMethod
		}
	}
	return -1, api.OK
}

// dice are numbers that come in the same order in each run.
type dice uint64

func (d *dice) below(n int) int {
	*d = *d*6364136223846793005 + 1442695040888963407
	return int(*d>>33) % n
}

// of is one of the given numbers.
func (d *dice) of(list ...int) int { return list[d.below(len(list))] }

// any is a method whose instructions are not chosen to fit together; that their numbers are small lets them meet.
func (d *dice) any() api.Method {
	m := api.Method{Temps: d.below(3), Stack: d.below(5), Lits: make([]api.Word, d.below(3))}
	for n := 1 + d.below(9); n > 0; n-- {
		op := 1 + d.below(23)
		if d.below(2) == 0 {
			op = d.of(8, 9, 10, 13, 14, 15, 16, 17, 18)
		}
		m.Code = append(m.Code, in(op, d.below(4), d.below(3)))
		if op >= 14 && op <= 16 {
			m.Code[len(m.Code)-1].A = d.below(8)
		}
	}
	return m
}

// ops are those that may follow at a depth.
func (d *dice) op(depth, stack int, block bool) int {
	ops := []int{14}
	if depth < stack {
		ops = append(ops, 1, 3, 4, 6, 7, 8, 8, 19)
		if block {
			ops = append(ops, 20, 20)
		}
	}
	if depth > 0 {
		ops = append(ops, 2, 5, 10, 11, 12, 15, 16, 15, 16)
		if block {
			ops = append(ops, 21, 21)
		}
		if depth < stack {
			ops = append(ops, 9)
		}
	}
	if depth > 1 {
		ops = append(ops, 13)
	}
	return d.of(ops...)
}

// fitting is a method whose instructions fit together, with jumps back and forth between equal depths; block: with what blocks have.
func (d *dice) fitting(block bool, lits ...api.Word) api.Method {
	m := api.Method{Temps: 1 + d.below(3), Stack: 1 + d.below(4), Lits: lits}
	depth, before := 0, []int{}
	for n := d.below(14); n > 0; n-- {
		op := d.op(depth, m.Stack, block)
		i := in(op)
		switch op {
		case 1, 2:
			i.A = d.below(m.Temps)
		case 3, 19:
			i.A = d.below(len(lits))
		case 4, 5:
			i.A = d.below(3)
		case 8:
			i.A, i.B = d.below(4096), d.below(4096)
		case 11, 12:
			i.A, i.B = d.below(len(lits)), d.below(min(depth, 5))
		case 13:
			i.A = d.below(8)
		case 20, 21:
			i.A, i.B = d.below(3), d.below(3)
		}
		m.Code, before = append(m.Code, i), append(before, depth)
		depth += rowOf(i).pushes - rowOf(i).pops
	}
	end := d.of(17, 18)
	if block {
		end = d.of(22, 23)
	}
	if depth < rowOf(in(end)).pops {
		m.Code, before = append(m.Code, in(6)), append(before, depth)
		depth++
	}
	m.Code, before = append(m.Code, in(end)), append(before, depth)
	for at, i := range m.Code {
		if i.Op >= 14 && i.Op <= 16 {
			m.Code[at].A = d.at(before, before[at]-rowOf(i).pops)
		}
	}
	return m
}

// at is the place of one of the instructions that have this depth ahead of them.
func (d *dice) at(before []int, depth int) int {
	var list []int
	for at, b := range before {
		if b == depth {
			list = append(list, at)
		}
	}
	return d.of(list...)
}

// disturb changes a few of the numbers of a method.
func (d *dice) disturb(m *api.Method) {
	for n := d.below(3); n > 0; n-- {
		k := d.below(len(m.Code))
		switch d.below(7) {
		case 0:
			m.Code[k].Op = 1 + d.below(23)
		case 1:
			m.Code[k].A = d.below(len(m.Code) + 1)
		case 2:
			m.Code[k].B = d.below(6)
		case 3:
			m.Stack = d.below(6)
		case 4:
			m.Temps = d.below(5)
		case 5:
			m.Prim = d.below(3)
		case 6:
			m.Code = slices.Delete(m.Code, k, k+1)
			if len(m.Code) == 0 {
				return
			}
		}
	}
}

func sameDepths(t *testing.T, m api.Method) bool {
	t.Helper()
	want, wantAt, wantE := modelDepths(m)
	list, at, e := verify.Depths(m)
	if !slices.Equal(list, want) || at != wantAt || e != wantE {
		t.Fatalf("Depths(%v) = %v, %d, %d, want %v, %d, %d", m, list, at, e, want, wantAt, wantE)
	}
	return e == api.OK
}

// P5.1

func TestDepthsAsTheModel(t *testing.T) {
	accepted, refused := 0, 0
	for seed := range 30000 {
		d := dice(seed)
		m := d.any()
		if seed%2 == 0 {
			m = d.fitting(seed%4 == 0, 1, 3)
			d.disturb(&m)
		}
		if sameDepths(t, m) {
			accepted++
			walk(t, &d, m)
		} else {
			refused++
		}
	}
	if accepted < 5000 || refused < 5000 {
		t.Errorf("%d were accepted and %d refused: too few", accepted, refused)
	}
}

func TestDepthsOfAllShortMethods(t *testing.T) {
	// One operation of each row, with each successor that it may have.
	list := []api.Instr{in(8), in(10), in(9), in(11, 0, 1), in(13), in(17), in(18)}
	for a := range 4 {
		list = append(list, in(14, a), in(15, a))
	}
	for n := range len(list) * len(list) * len(list) * len(list) {
		m := api.Method{Stack: 2, Lits: []api.Word{1}}
		for range 4 {
			m.Code = append(m.Code, list[n%len(list)])
			n /= len(list)
		}
		sameDepths(t, m)
	}
}

// P5.3

// walk goes along a path of a method that was accepted, with a stack whose words are counted.
func walk(t *testing.T, d *dice, m api.Method) {
	t.Helper()
	list, _, _ := verify.Depths(m)
	at, depth := 0, 0
	for range 60 {
		if at >= len(m.Code) {
			t.Fatalf("%v: a path continues beyond the last instruction", m)
		}
		if depth != list[at] {
			t.Fatalf("%v: %d words ahead of instruction %d, told %d", m, depth, at, list[at])
		}
		r := rowOf(m.Code[at])
		if depth < r.pops {
			t.Fatalf("%v: underflow at instruction %d", m, at)
		}
		depth += r.pushes - r.pops
		if depth > m.Stack {
			t.Fatalf("%v: overflow at instruction %d", m, at)
		}
		next := successors(m, at)
		if len(next) == 0 {
			return
		}
		at = d.of(next...)
	}
}

// P5.2 and P5.3

// written is the object of a method, or of what is no method.
func written(d *dice, h *heap.Heap, m api.Method) api.Word {
	w, _ := code.Write(h, 0, m)
	if d.below(12) == 0 && w != 0 {
		h.Store(w, d.below(6), num(d.below(8)-1))
	}
	return w
}

// nest is a method in whose literals blocks are, in whose literals blocks are; most of them fit.
func nest(d *dice, h *heap.Heap) []api.Word {
	list := []api.Word{num(7)}
	for n := range 6 {
		m := d.fitting(n < 4, d.word(list), d.word(list), d.word(list))
		if d.below(5) == 0 {
			d.disturb(&m)
		}
		list = append(list, written(d, h, m))
	}
	return list
}

// word is one of a list, most often of its end.
func (d *dice) word(list []api.Word) api.Word {
	if d.below(8) == 0 {
		return list[d.below(len(list))]
	}
	return list[max(0, len(list)-1-d.below(2))]
}

func TestCheckAsTheModel(t *testing.T) {
	accepted, refused, pushing := 0, 0, 0
	for seed := range 4000 {
		d := dice(seed)
		h, _ := heap.New(1024)
		for _, w := range nest(&d, h) {
			for _, outers := range [][]int{nil, {d.below(4)}, {d.below(4), d.below(4)}, {2, 3, 2}} {
				fields := 3 - d.below(9)/6*d.below(4)
				at, e := verify.Check(h, w, fields, outers)
				if wantAt, wantE := modelCheck(h, w, fields, outers); at != wantAt || e != wantE {
					m, _ := code.Read(h, w)
					t.Fatalf("seed %d: Check of %v with %d, %v = %d, %d, want %d, %d", seed, m, fields, outers, at, e, wantAt, wantE)
				}
				if e != api.OK {
					refused++
					continue
				}
				accepted++
				m, _ := code.Read(h, w)
				walk(t, &d, m)
				if slices.ContainsFunc(m.Code, func(i api.Instr) bool { return i.Op == 19 }) {
					pushing++
				}
			}
		}
	}
	if accepted < 5000 || refused < 5000 || pushing < 500 {
		t.Errorf("%d were accepted (%d that push blocks) and %d refused: too few", accepted, pushing, refused)
	}
}
