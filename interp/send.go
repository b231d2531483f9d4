package interp

import (
	"tappet/api"
	"tappet/cache"
	"tappet/class"
	"tappet/code"
	"tappet/heap"
)

// finder is how a send comes to a method and its arguments; Target is one.
type finder func(h *heap.Heap, c *cache.Cache, receiver, selector api.Word, args []api.Word) (api.Word, []api.Word, api.Errno)

// unknown is what a send comes to that is not understood.
func unknown(h *heap.Heap, c *cache.Cache, receiver, selector api.Word) (api.Word, []api.Word, api.Errno) {
	method, e := c.Find(h, class.Of(h, receiver), class.Special(h, api.SelUnknown))
	if e != api.OK {
		return 0, nil, api.ErrLookup
	}
	return method, []api.Word{selector}, api.OK
}

// aboveTarget is the finder that starts above the class in which the method of the home stands.
func (t *turn) aboveTarget(h *heap.Heap, c *cache.Cache, receiver, selector api.Word, args []api.Word) (api.Word, []api.Word, api.Errno) {
	context, ok := home(h, t.context)
	if !ok {
		return 0, nil, api.ErrLookup
	}
	start, ok := class.Above(h, class.Of(h, receiver), t.fetch(field{context, methodAt}))
	if !ok {
		return 0, nil, api.ErrLookup
	}
	method, e := class.Lookup(h, start, selector)
	if e != api.OK {
		return unknown(h, c, receiver, selector)
	}
	return method, args, api.OK
}

// send lets a receiver do what it understands by a selector.
func (t *turn) send(find finder, receiver, selector api.Word, args []api.Word) {
	method, args, e := find(t.h, t.c, receiver, selector, args)
	must(e)
	m, e := code.Read(t.h, method)
	must(e)
	if m.Args != len(args) {
		fail(api.ErrArg)
	}
	switch m.Prim {
	case 0:
	case primBlock:
		if t.runBlock(receiver, args) {
			return
		}
	default:
		if t.runPrim(m.Prim, receiver, args) {
			return
		}
	}
	t.activate(method, receiver, t.special(api.Nil), args)
}

// runPrim pushes what a primitive answers; false if it fails.
func (t *turn) runPrim(n int, receiver api.Word, args []api.Word) bool {
	v, out, e := Prim(t.h, t.c, n, receiver, args)
	if e == api.ErrFail {
		return false
	}
	must(e)
	t.s.Out = append(t.s.Out, out...)
	t.push(v)
	return true
}

// runBlock activates a block; false if the word is none that takes these arguments.
func (t *turn) runBlock(w api.Word, args []api.Word) bool {
	if !isOf(t.h, w, api.ClassBlock) {
		return false
	}
	body := t.fetch(field{w, bodyAt})
	m, e := code.Read(t.h, body)
	if e != api.OK || m.Args != len(args) {
		return false
	}
	t.activate(body, t.fetch(field{w, selfAt}), w, args)
	return true
}

// activate lets a new context be the active one.
func (t *turn) activate(method, receiver, closure api.Word, args []api.Word) {
	context, e := Activate(t.h, t.context, method, receiver, closure, args)
	must(e)
	t.s.Active = context
}
