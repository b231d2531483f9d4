package interp

import (
	"tappet/api"
	"tappet/cache"
	"tappet/class"
	"tappet/heap"
	"tappet/word"
)

// pushIntBias is what is taken off the operand of PushInt, so that it can name integers below 0.
const pushIntBias = 2048

// firstCompare is the first kind of Arith that holds numbers against one another.
const firstCompare = 5

// turn is the execution of one instruction. What it pops, pushes and assigns to fields is only noted, and done when nothing can fail any more.
type turn struct {
	place
	h        *heap.Heap
	c        *cache.Cache
	s        State
	context  api.Word
	next     int          // where the context goes on
	kept     int          // how many words of the stack were not popped
	pushed   []api.Word   // those above them
	assigned []assignment // what was popped to be stored elsewhere
}

// assignment is a word that a field is to hold.
type assignment struct {
	into field
	v    api.Word
}

// begin is the turn of the instruction at which the active context is.
func begin(h *heap.Heap, c *cache.Cache, s State) *turn {
	p, ok := resumed(h, s.Active)
	if !ok {
		fail(api.ErrResume)
	}
	return &turn{place: p, h: h, c: c, s: s, context: s.Active, next: p.pc + 1, kept: p.depth}
}

// run is the state behind the instruction.
func (t *turn) run() State {
	i := t.method.Code[t.pc]
	switch i.Op {
	case api.OpReturnSelf:
		t.push(t.field(receiverAt))
		fallthrough
	case api.OpReturn, api.OpBlockReturn:
		return t.leave(t.context, t.pop())
	case api.OpFarReturn:
		return t.leave(t.liveHome(), t.pop())
	}
	t.execute(i)
	t.settle()
	return t.s
}

// execute does what an instruction does that is no return.
func (t *turn) execute(i api.Instr) {
	yes, no := t.special(api.True), t.special(api.False)
	lookup := Target
	switch i.Op {
	case api.OpPopTemp, api.OpPopField, api.OpPopOuter, api.OpDrop:
		t.executePop(i)
	case api.OpSuper:
		lookup = t.aboveTarget
		fallthrough
	case api.OpSend:
		args := t.popAll(i.B)
		t.send(lookup, t.pop(), t.method.Lits[i.A], args)
	case api.OpArith:
		t.arith(i.A)
	case api.OpJump:
		t.next = i.A
	case api.OpJumpFalse:
		yes, no = no, yes
		fallthrough
	case api.OpJumpTrue:
		t.branch(i.A, yes, no)
	default:
		t.executePush(i)
	}
}

// executePush does what an instruction does that only pushes words.
func (t *turn) executePush(i api.Instr) {
	switch i.Op {
	case api.OpPushTemp:
		t.push(t.field(wordsAt + i.A))
	case api.OpPushLit:
		t.push(t.method.Lits[i.A])
	case api.OpPushField:
		t.push(t.fetch(t.receiverField(i.A)))
	case api.OpPushSelf:
		t.push(t.field(receiverAt))
	case api.OpPushContext:
		t.push(t.context)
	case api.OpPushInt:
		t.push(integer(i.A - pushIntBias))
	case api.OpDup:
		t.push(t.top())
	case api.OpPushBlock:
		t.push(t.block(t.method.Lits[i.A]))
	case api.OpPushOuter:
		t.push(t.fetch(t.outerTemp(i.A, i.B)))
	}
}

// executePop does what an instruction does that only pops a word.
func (t *turn) executePop(i api.Instr) {
	v := t.pop()
	switch i.Op {
	case api.OpPopTemp:
		t.assign(field{t.context, wordsAt + i.A}, v)
	case api.OpPopField:
		t.assign(t.receiverField(i.A), v)
	case api.OpPopOuter:
		t.assign(t.outerTemp(i.A, i.B), v)
	}
}

// assign lets a field hold a word once what was popped is settled.
func (t *turn) assign(into field, v api.Word) {
	t.assigned = append(t.assigned, assignment{into, v})
}

// arith reckons with two words, or sends where they are no integers or the result is none.
func (t *turn) arith(kind int) {
	b := t.pop()
	a := t.pop()
	v, ok := t.reckon(kind, a, b)
	if !ok {
		t.send(Target, a, t.special(api.SelArith+kind), []api.Word{b})
		return
	}
	t.push(v)
}

// reckon is what a kind of arithmetic makes of two integers; false if they are none, or the result has no word.
func (t *turn) reckon(kind int, a, b api.Word) (api.Word, bool) {
	if kind < firstCompare {
		return word.Arith(kind, a, b)
	}
	holds, ok := word.Less(kind-firstCompare, a, b)
	if holds {
		return t.special(api.True), ok
	}
	return t.special(api.False), ok
}

// branch goes on at an instruction if the word on top is the one truth value, and at the next one if it is the other.
func (t *turn) branch(to int, yes, no api.Word) {
	switch v := t.pop(); v {
	case yes:
		t.next = to
	case no:
	default:
		// The answer is asked again.
		t.next = t.pc
		t.send(Target, v, t.special(api.SelBoolean), nil)
	}
}

// leave lets a context return a word.
func (t *turn) leave(context, v api.Word) State {
	none := t.special(api.Nil)
	sender := t.fetch(field{context, senderAt})
	t.store(field{context, senderAt}, none)
	t.store(field{context, pcAt}, none)
	return Deliver(t.h, t.s, sender, v)
}

// settle lays in the context what was popped and pushed, and where it goes on, and then in fields what was assigned to them.
func (t *turn) settle() {
	held := t.method.Temps + t.kept
	for _, v := range t.pushed {
		t.h.Store(t.context, wordsAt+held, v)
		held++
	}
	t.h.Store(t.context, pcAt, integer(t.next))
	t.h.Store(t.context, heldAt, integer(held))
	// Nothing may be kept alive by what was popped.
	for k := held; k < t.method.Temps+t.depth; k++ {
		t.h.Store(t.context, wordsAt+k, t.special(api.Nil))
	}
	// The field may be one of those above: what a program stores there remains.
	for _, a := range t.assigned {
		t.store(a.into, a.v)
	}
}

func (t *turn) special(k int) api.Word { return class.Special(t.h, k) }
