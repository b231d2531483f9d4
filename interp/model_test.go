package interp_test

import (
	"slices"
	"testing"

	"tappet/api"
	"tappet/class"
	"tappet/code"
	"tappet/heap"
	"tappet/interp"
	"tappet/prim"
	"tappet/verify"
	"tappet/word"
)

// model is the chapter's machine, told as plainly as can be: it has no cache, and works out what an instruction comes to ahead of changing anything.
type model struct {
	h *heap.Heap
	s interp.State
}

func (m *model) special(k int) api.Word { return class.Special(m.h, k) }

func (m *model) fields(w api.Word) []api.Word {
	size, _ := m.h.Size(w)
	l := make([]api.Word, size)
	for k := range l {
		l[k], _ = m.h.Fetch(w, k)
	}
	return l
}

func (m *model) of(w api.Word, k int) bool {
	c, e := m.h.Class(w)
	return e == api.OK && c == m.special(k)
}

func (m *model) set(w api.Word, k int, l ...api.Word) {
	for n, v := range l {
		m.h.Store(w, k+n, v)
	}
}

// room: may an object with so many fields be made?
func (m *model) room(size int) bool { return m.h.Used()+3+size <= m.h.Words() }

func (m *model) make(k int, l ...api.Word) api.Word {
	w, _ := m.h.Alloc(m.special(k), len(l), m.special(0))
	m.set(w, 0, l...)
	return w
}

func (m *model) stop(e api.Errno) api.Errno {
	m.s.E = e
	return api.OK
}

// resumable is the method, pc and depth of a context.
func (m *model) resumable(w api.Word) (api.Method, int, int, bool) {
	l := m.fields(w)
	if !m.of(w, 4) || len(l) < 6 || !m.of(l[3], 5) {
		return api.Method{}, 0, 0, false
	}
	x, e := code.Read(m.h, l[3])
	depths, _, f := verify.Depths(x)
	if e != api.OK || f != api.OK || len(l) < 6+x.Temps+x.Stack {
		return api.Method{}, 0, 0, false
	}
	for pc, depth := range depths {
		if depth >= 0 && l[1] == num(pc) && l[2] == num(x.Temps+depth) {
			return x, pc, depth, true
		}
	}
	return api.Method{}, 0, 0, false
}

// change is what an instruction does to its context: how many words it pops, what it pushes, where it goes on.
type change struct {
	pops   int
	pushes []api.Word
	next   int
}

func (m *model) apply(x api.Word, method api.Method, depth int, c change) {
	bottom := 6 + method.Temps + depth - c.pops
	m.set(x, bottom, slices.Repeat(words(m.special(0)), c.pops)...)
	m.set(x, bottom, c.pushes...)
	m.set(x, 1, num(c.next), num(bottom-6+len(c.pushes)))
}

// outer is the context in which the block of a context was made.
func (m *model) outer(x api.Word) (api.Word, bool) {
	l := m.fields(x)
	if len(l) < 6 || !m.of(l[5], 6) {
		return 0, false
	}
	block := m.fields(l[5])
	return append(block, 0)[0], len(block) > 0 && m.of(block[0], 4)
}

func (m *model) home(x api.Word) (api.Word, bool) {
	for k, ok := 0, true; k < 256 && ok; k++ {
		if l := m.fields(x); len(l) > 5 && l[5] == m.special(0) {
			return x, true
		}
		x, ok = m.outer(x)
	}
	return 0, false
}

// step is what interp.Step has to do.
func (m *model) step() api.Errno {
	if m.s.Done || m.s.E != 0 {
		return api.OK
	}
	x := m.s.Active
	method, pc, depth, ok := m.resumable(x)
	if !ok {
		return m.stop(api.ErrResume)
	}
	l := m.fields(x)
	temps, stack, self := l[6:6+method.Temps], l[6+method.Temps:6+method.Temps+depth], l[4]
	i := method.Code[pc]
	pops, pushes := []int{0, 0, 1, 0, 0, 1, 0, 0, 0, 0, 1, i.B + 1, i.B + 1, 2, 0, 1, 1, 1, 0, 0, 0, 1, 1, 1}[i.Op], []api.Word(nil)
	popped := stack[depth-pops:]
	c := change{pops, nil, pc + 1}
	push := func(v api.Word) { pushes = append(pushes, v) }
	switch i.Op {
	case 1:
		push(temps[i.A])
	case 2:
		m.set(x, 6+i.A, popped[0])
	case 3:
		push(method.Lits[i.A])
	case 4, 5:
		f := m.fields(self)
		if !m.h.Has(self) || m.of(self, 7) || m.of(self, 5) || i.A >= len(f) {
			return m.stop(api.ErrResume)
		}
		if i.Op == 5 {
			m.apply(x, method, depth, c)
			m.set(self, i.A, popped[0])
			return api.OK
		}
		push(f[i.A])
	case 6:
		push(self)
	case 7:
		push(x)
	case 8:
		push(num(i.A - 2048))
	case 9:
		push(stack[depth-1])
	case 10:
	case 11, 12:
		return m.send(x, method, depth, c, i.Op == 12, popped[0], method.Lits[i.A], popped[1:])
	case 13:
		v, ok := word.Arith(i.A, popped[0], popped[1])
		if i.A >= 5 {
			less, isInt := word.Less(i.A-5, popped[0], popped[1])
			if v, ok = m.special(2), isInt; less {
				v = m.special(1)
			}
		}
		if !ok {
			return m.send(x, method, depth, c, false, popped[0], m.special(11+i.A), popped[1:])
		}
		push(v)
	case 14:
		c.next = i.A
	case 15, 16:
		if popped[0] == m.special(i.Op-14) {
			c.next = i.A
		} else if popped[0] != m.special(17-i.Op) {
			c.next = pc
			return m.send(x, method, depth, c, false, popped[0], m.special(10), nil)
		}
	case 17, 22:
		return m.leave(x, popped[0])
	case 18:
		return m.leave(x, self)
	case 19:
		if !m.room(3) {
			return api.ErrMemory
		}
		push(m.make(6, x, method.Lits[i.A], self))
	case 20, 21:
		out, ok := x, true
		for range i.A {
			if out, ok = m.outer(out); !ok {
				return m.stop(api.ErrResume)
			}
		}
		f := append(m.fields(out), 0, 0, 0, 0)
		outs, e := code.Read(m.h, f[3])
		if e != api.OK || i.B >= outs.Temps || 6+i.B >= len(f)-4 {
			return m.stop(api.ErrResume)
		}
		if i.Op == 20 {
			push(f[6+i.B])
		} else {
			m.set(out, 6+i.B, popped[0])
		}
	case 23:
		home, ok := m.home(x)
		if !ok {
			return m.stop(api.ErrResume)
		}
		if m.fields(home)[1] == m.special(0) {
			return m.stop(api.ErrReturn)
		}
		return m.leave(home, popped[0])
	}
	c.pushes = pushes
	m.apply(x, method, depth, c)
	return api.OK
}

func (m *model) leave(x, v api.Word) api.Errno {
	to, none := m.fields(x)[0], m.special(0)
	m.set(x, 0, none, none)
	if to == none && to != 0 {
		m.s.Done, m.s.Result = true, v
		return api.OK
	}
	l := m.fields(to)
	if m.of(to, 4) && len(l) > 2 {
		for k := 6; k < len(l); k++ {
			if l[2] == num(k-6) {
				m.set(to, k, v)
				m.set(to, 2, num(k-5))
				m.s.Active = to
				return api.OK
			}
		}
	}
	return m.stop(api.ErrResume)
}

// find is the method of a send, and its arguments.
func (m *model) find(x api.Word, super bool, receiver, selector api.Word, args []api.Word) (api.Word, []api.Word, bool) {
	of := class.Of(m.h, receiver)
	from := of
	if super {
		home, ok := m.home(x)
		if !ok {
			return 0, nil, false
		}
		if from, ok = class.Above(m.h, of, m.fields(home)[3]); !ok {
			return 0, nil, false
		}
	}
	if found, e := class.Lookup(m.h, from, selector); e == api.OK {
		return found, args, true
	}
	found, e := class.Lookup(m.h, of, m.special(9))
	return found, words(selector), e == api.OK
}

func (m *model) send(x api.Word, method api.Method, depth int, c change, super bool, receiver, selector api.Word, args []api.Word) api.Errno {
	found, args, ok := m.find(x, super, receiver, selector, args)
	if !ok {
		return m.stop(api.ErrLookup)
	}
	callee, e := code.Read(m.h, found)
	if e != api.OK {
		return m.stop(api.ErrMethod)
	}
	if callee.Args != len(args) {
		return m.stop(api.ErrArg)
	}
	closure, self := m.special(0), receiver
	if block := m.fields(receiver); callee.Prim == 20 && m.of(receiver, 6) && len(block) > 2 {
		if body, e := code.Read(m.h, block[1]); e == api.OK && body.Args == len(args) {
			callee, found, self, closure = body, block[1], block[2], receiver
		}
	} else if callee.Prim != 0 && callee.Prim != 20 {
		v, e := m.prim(callee.Prim, receiver, args)
		if e == api.ErrMemory {
			return e
		}
		if e == api.OK {
			c.pushes = words(v)
			m.apply(x, method, depth, c)
			return api.OK
		}
	}
	size := callee.Temps + callee.Stack
	if !m.room(6 + size) {
		return api.ErrMemory
	}
	l := append(words(x, num(0), num(callee.Temps), found, self, closure), args...)
	m.s.Active = m.make(4, append(l, slices.Repeat(words(m.special(0)), size-len(args))...)...)
	m.apply(x, method, depth, c)
	return api.OK
}

func (m *model) prim(n int, receiver api.Word, args []api.Word) (api.Word, api.Errno) {
	e := api.ErrFail
	switch {
	case n == 21 && len(args) == 0:
		if v, ok := word.Int(receiver); ok == api.OK {
			m.s.Out = append(m.s.Out, v)
			e = api.OK
		}
	case n == 22 && len(args) == 2:
		e = class.Install(m.h, receiver, args[0], args[1])
	case n == 23 && len(args) == 1:
		e = class.Remove(m.h, receiver, args[0])
	case n < 21 || n > 23:
		return prim.Run(m.h, n, receiver, args)
	}
	if e != api.OK && e != api.ErrMemory {
		return 0, api.ErrFail
	}
	return receiver, e
}

// twin is a copy of a heap.
func twin(t *testing.T, h *heap.Heap) *heap.Heap {
	t.Helper()
	c := made(t, h.Words())
	if e := c.Load(h.Dump(), h.Root(), h.Hashes()); e != api.OK {
		t.Fatalf("Load = error %d", e)
	}
	return c
}
