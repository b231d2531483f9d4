package gen

import "tappet/api"

// zeroOperand is the A of the PushInt that pushes 0.
const zeroOperand = 2048

// generator translates a method, one instruction after the other.
type generator struct {
	m      api.Method
	depths []int
	leads  []bool
	notes  stack[api.Src] // the simulated stack
	u      api.Unit
}

func newGenerator(m api.Method, depths []int) *generator {
	return &generator{m: m, depths: depths, leads: leadersOf(m, depths)}
}

// unitOf is the translation, as that of the method of a word.
func (g *generator) unitOf(method api.Word) api.Unit {
	g.u = api.Unit{Method: method, Args: g.m.Args, Temps: g.m.Temps, Regs: g.m.Temps + g.m.Stack}
	for k := range g.m.Code {
		g.u.Starts = append(g.u.Starts, len(g.u.Code))
		g.u.Maps = append(g.u.Maps, g.enter(k))
		if isReached(g.depths[k]) {
			g.translate(k)
		}
	}
	g.u.Starts = append(g.u.Starts, len(g.u.Code))
	return g.u
}

// enter comes to instruction k, and answers its map.
func (g *generator) enter(k int) []api.Src {
	if !isReached(g.depths[k]) {
		return nil
	}
	if g.leads[k] {
		g.notes = nil
		for d := range g.depths[k] {
			g.notes.push(g.home(d))
		}
	}
	m := make([]api.Src, 0, g.m.Temps+len(g.notes))
	for n := range g.m.Temps {
		m = append(m, register(n))
	}
	return append(m, g.notes...)
}

// translate generates the code of instruction k, which is reached.
func (g *generator) translate(k int) {
	i := g.m.Code[k]
	switch i.Op {
	case api.OpArith, api.OpSend:
		g.call(i, g.leads[k+1])
	case api.OpJump, api.OpJumpTrue, api.OpJumpFalse:
		g.jump(i)
	case api.OpReturn, api.OpReturnSelf:
		g.leave(i)
	case api.OpPushContext, api.OpPushBlock, api.OpSuper:
		g.add(api.Ins{Op: api.InsTrap})
	default:
		g.note(i)
		if g.leads[k+1] {
			g.allHome()
		}
	}
}

// note generates the code of an instruction that does nothing but push, pop and store.
func (g *generator) note(i api.Instr) {
	switch i.Op {
	case api.OpPushTemp:
		g.notes.push(register(i.A))
	case api.OpPushLit:
		g.notes.push(literal(g.m.Lits[i.A]))
	case api.OpPushInt:
		g.notes.push(literal(number(i.A - zeroOperand)))
	case api.OpPushSelf:
		g.notes.push(receiver())
	case api.OpDup:
		g.notes.push(g.notes.top())
	case api.OpDrop:
		g.notes.take(1)
	case api.OpPopTemp:
		g.popTemp(i.A)
	case api.OpPushField:
		g.addResult(api.Ins{Op: api.InsLoad, N: i.A})
	case api.OpPopField:
		g.add(api.Ins{Op: api.InsStore, N: i.A, L: g.notes.take(1)})
	}
}

// popTemp brings the words for which the temporary stands on the stack to their homes, ahead of what is stored in it.
func (g *generator) popTemp(n int) {
	temp := register(n)
	popped := g.notes.take(1)
	if popped[0] == temp {
		return
	}
	for d, s := range g.notes {
		if s == temp {
			g.bringHome(d)
		}
	}
	g.add(api.Ins{Op: api.InsMove, D: temp, L: popped})
}

// call generates the code of what may lead into another method. What remains on the stack is brought home ahead of it, so that its result may also come later.
func (g *generator) call(i api.Instr, leads bool) {
	operands := 2
	if i.Op == api.OpSend {
		operands = i.B + 1
	}
	l := g.notes.take(operands)
	if leads {
		g.allHome()
	}
	if i.Op == api.OpArith {
		g.addResult(api.Ins{Op: api.InsArith, N: i.A, L: l})
		return
	}
	g.addResult(api.Ins{Op: api.InsSend, N: g.u.Sites, L: l, W: g.m.Lits[i.A]})
	g.u.Sites++
}

// jump generates the code of an instruction with which another one than the next may follow. A conditional one is a leader, so that its stack is at home already.
func (g *generator) jump(i api.Instr) {
	wanted := 0
	switch i.Op {
	case api.OpJump:
		g.allHome()
		g.add(api.Ins{Op: api.InsJump, N: i.A})
	case api.OpJumpTrue:
		wanted = 1
		fallthrough
	case api.OpJumpFalse:
		g.add(api.Ins{Op: api.InsBranch, N: i.A, L: g.notes.take(1), W: number(wanted)})
	}
}

// leave generates the code of a return. The receiver is returned as if it had been pushed.
func (g *generator) leave(i api.Instr) {
	switch i.Op {
	case api.OpReturnSelf:
		g.notes.push(receiver())
		fallthrough
	case api.OpReturn:
		g.add(api.Ins{Op: api.InsReturn, L: g.notes.take(1)})
	}
}

// home is the home place of the word at a depth.
func (g *generator) home(d int) api.Src { return register(g.m.Temps + d) }

// bringHome brings the word at a depth to its home place.
func (g *generator) bringHome(d int) {
	g.add(api.Ins{Op: api.InsMove, D: g.home(d), L: []api.Src{g.notes[d]}})
	g.notes[d] = g.home(d)
}

// allHome brings the stack home.
func (g *generator) allHome() {
	for d, s := range g.notes {
		if s != g.home(d) {
			g.bringHome(d)
		}
	}
}

func (g *generator) add(i api.Ins) { g.u.Code = append(g.u.Code, i) }

// addResult adds an instruction whose result is pushed, at home.
func (g *generator) addResult(i api.Ins) {
	i.D = g.home(len(g.notes))
	g.add(i)
	g.notes.push(i.D)
}
