package gen_test

import (
	"slices"
	"testing"

	"tappet/api"
	"tappet/gen"
	"tappet/ir"
	"tappet/verify"
)

// P12.2: register code and bytecode are executed side by side, instruction by instruction of the bytecode. Whatever an operation answers is a new word, the same for both; words that no map names are spoiled between the instructions.

const receiver = api.Word(1 << 40)

// event is what an instruction did that is to be seen from outside: its operation in register code, its number, its operands.
type event struct {
	op, n int
	l     []api.Word
	w     api.Word
}

func sameEvent(a, b event) bool {
	return a.op == b.op && a.n == b.n && a.w == b.w && slices.Equal(a.l, b.l)
}

// pair is a method that is executed in both forms.
type pair struct {
	t      *testing.T
	d      *dice
	m      api.Method
	u      api.Unit
	last   int        // the last new word
	words  []api.Word // temporaries and stack, by the bytecode
	regs   []api.Word // by the register code
	events []event    // of the instruction, by the bytecode
	late   bool       // whether the instruction's result has not come to its register yet
}

// fresh is a word that was nowhere before.
func (p *pair) fresh() api.Word {
	p.last++
	return ref(1<<30 + p.last)
}

func (p *pair) value(s api.Src) api.Word {
	switch s.Kind {
	case api.SrcReg:
		return p.regs[s.N]
	case api.SrcLit:
		return s.W
	}
	return receiver
}

func (p *pair) values(l []api.Src) []api.Word {
	var words []api.Word
	for _, s := range l {
		words = append(words, p.value(s))
	}
	return words
}

func (p *pair) push(w api.Word) { p.words = append(p.words, w) }

func (p *pair) pop(n int) []api.Word {
	at := len(p.words) - n
	popped := slices.Clone(p.words[at:])
	p.words = p.words[:at]
	return popped
}

// bytecode executes an instruction by its meaning, answers what it pushes as a result if it does (0: it doesn't), and notes its events. Jumps are left to the caller.
func (p *pair) bytecode(at, site int) api.Word {
	i := p.m.Code[at]
	happens := func(op, n int, w api.Word, l ...api.Word) {
		p.events = append(p.events, event{op, n, l, w})
	}
	var result api.Word
	switch i.Op {
	case 1:
		p.push(p.words[i.A])
	case 2:
		p.words[i.A] = p.pop(1)[0]
	case 3:
		p.push(p.m.Lits[i.A])
	case 6:
		p.push(receiver)
	case 8:
		p.push(num(i.A - 2048))
	case 9:
		p.push(p.words[len(p.words)-1])
	case 10:
		p.pop(1)
	case 4:
		happens(api.InsLoad, i.A, 0)
		result = p.fresh()
	case 5:
		happens(api.InsStore, i.A, 0, p.pop(1)...)
	case 11:
		happens(api.InsSend, site, p.m.Lits[i.A], p.pop(i.B+1)...)
		result = p.fresh()
	case 13:
		happens(api.InsArith, i.A, 0, p.pop(2)...)
		result = p.fresh()
	case 14:
		happens(api.InsJump, i.A, 0)
	case 15:
		happens(api.InsBranch, i.A, num(1), p.pop(1)...)
	case 16:
		happens(api.InsBranch, i.A, num(0), p.pop(1)...)
	case 17:
		happens(api.InsReturn, 0, 0, p.pop(1)...)
	case 18:
		happens(api.InsReturn, 0, 0, receiver)
	case 7, 19:
		happens(api.InsTrap, 0, 0)
		result = p.fresh()
	case 12:
		happens(api.InsTrap, 0, 0)
		p.pop(i.B + 1)
		result = p.fresh()
	}
	if result != 0 {
		p.push(result)
	}
	return result
}

// registerCode executes the code of an instruction, with the result that its operation has; late: it comes only ahead of the next instruction.
func (p *pair) registerCode(at int, result api.Word, late bool) []event {
	var events []event
	l := p.u.Code[p.u.Starts[at]:p.u.Starts[at+1]]
	for k, i := range l {
		v := p.values(i.L)
		switch {
		case i.Op == api.InsMove:
			p.regs[i.D.N] = v[0]
			continue
		case late && k != len(l)-1 && i.Op != api.InsLoad && ir.Leaves(i.Op):
			p.t.Fatalf("%v: instruction %d does something behind its call", p.m, at)
		case late && i.Op != api.InsLoad && ir.Leaves(i.Op):
			p.regs[i.D.N] = p.fresh()
		case ir.Leaves(i.Op):
			p.regs[i.D.N] = result
		}
		events = append(events, event{i.Op, i.N, v, i.W})
	}
	return events
}

// spoil lays new words into all registers that a map does not name.
func (p *pair) spoil(m []api.Src) {
	for n := range p.regs {
		if !slices.Contains(m, reg(n)) {
			p.regs[n] = p.fresh()
		}
	}
}

// come holds the map of an instruction against temporaries and stack. The result that is late is delivered to the last source of the map, which is its home.
func (p *pair) come(at int, late bool) {
	m := p.u.Maps[at]
	if late {
		home := m[len(m)-1]
		if home != reg(len(m)-1) {
			p.t.Fatalf("%v: ahead of %d the result's place is %v", p.m, at, home)
		}
		p.regs[home.N] = p.words[len(p.words)-1]
	}
	p.spoil(m)
	if v := p.values(m); !slices.Equal(v, p.words) {
		p.t.Fatalf("%v: ahead of %d the map %v has %v, want %v", p.m, at, m, v, p.words)
	}
}

// trapped brings all registers where the map of the instruction behind a trap has them; it names each of them once.
func (p *pair) trapped(at int) {
	p.spoil(nil)
	for k, s := range p.u.Maps[at] {
		if s != reg(k) {
			p.t.Fatalf("%v: behind a trap, ahead of %d, the map is %v", p.m, at, p.u.Maps[at])
		}
		p.regs[s.N] = p.words[k]
	}
}

// next is the instruction that follows, by dice where both ways are open; -1: none.
func (p *pair) next(at int) int {
	i := p.m.Code[at]
	jumps := i.Op == 14 || i.Op == 15 || i.Op == 16
	switch {
	case i.Op == 17 || i.Op == 18:
		return -1
	case jumps && (i.Op == 14 || p.d.below(2) == 0):
		return i.A
	}
	return at + 1
}

// run executes so many instructions at most, beginning with the first, and answers how many there were.
func (p *pair) run(sites []int, most int) int {
	p.regs = make([]api.Word, p.u.Regs)
	for range p.m.Temps {
		p.push(p.fresh())
	}
	copy(p.regs, p.words)
	late := false
	for at, n := 0, 0; ; n++ {
		if at < 0 || n == most {
			return n
		}
		p.come(at, late)
		p.events = nil
		i := p.m.Code[at]
		result := p.bytecode(at, sites[at])
		late = (i.Op == 11 || i.Op == 13) && p.d.below(2) == 0
		if events := p.registerCode(at, result, late); !slices.EqualFunc(events, p.events, sameEvent) {
			p.t.Fatalf("%v: instruction %d did %v, want %v", p.m, at, events, p.events)
		}
		at = p.next(at)
		if i.Op == 7 || i.Op == 19 || i.Op == 12 {
			p.trapped(at)
		}
	}
}

// sitesOf are the sites of the reached sends, by the instruction.
func sitesOf(m api.Method) []int {
	depths, _, _ := verify.Depths(m)
	sites := make([]int, len(m.Code))
	n := 0
	for k, i := range m.Code {
		sites[k] = n
		if i.Op == 11 && depths[k] >= 0 {
			n++
		}
	}
	return sites
}

// runs executes a method in both forms, several times.
func runs(t *testing.T, d *dice, m api.Method, times int) int {
	t.Helper()
	u, e := gen.Gen(m, ref(9))
	if e != api.OK {
		t.Fatalf("Gen(%v) = error %d", m, e)
	}
	sum := 0
	for range times {
		p := &pair{t: t, d: d, m: m, u: u}
		sum += p.run(sitesOf(m), 400)
	}
	return sum
}

func TestNotesAreTheStack(t *testing.T) {
	steps := 0
	seen := map[int]int{}
	for seed := range 4000 {
		d := newDice(seed + 100000)
		m := d.method()
		steps += runs(t, d, m, 3)
		for _, i := range m.Code {
			seen[i.Op]++
		}
	}
	for op := 1; op <= 19; op++ {
		if seen[op] < 200 {
			t.Errorf("operation %d stands only %d times in the methods", op, seen[op])
		}
	}
	if steps < 100000 {
		t.Errorf("only %d instructions were executed", steps)
	}
}

func TestNotesAreTheStackInSpecialMethods(t *testing.T) {
	for k, m := range []api.Method{
		method(1, 2, in(1), in(8, 2049), in(13), in(2), in(18)),
		method(2, 2, in(1), in(1, 1), in(2), in(2, 1), in(14, 0)),
		method(1, 4, in(4, 1), in(9), in(9), in(9), in(11, 0, 3), in(1), in(1), in(2), in(2), in(10), in(14, 0)),
		method(2, 3, in(1), in(1, 1), in(9), in(2), in(2, 1), in(2), in(14, 0)),
		method(2, 4, in(7), in(1), in(19), in(12, 0, 2), in(15, 0), in(1), in(7), in(13), in(16, 0), in(18)),
	} {
		runs(t, newDice(k), m, 20)
	}
}
