package interp

import (
	"tappet/api"
	"tappet/code"
)

// field is one of an object, and known to be there.
type field struct {
	of api.Word
	k  int
}

// fetch is what a field holds.
func (t *turn) fetch(f field) api.Word {
	v, _ := t.h.Fetch(f.of, f.k)
	return v
}

// store lets a field hold a word.
func (t *turn) store(f field, v api.Word) { t.h.Store(f.of, f.k, v) }

// field is what a field of the context holds.
func (t *turn) field(k int) api.Word { return t.fetch(field{t.context, k}) }

// receiverField is a field of the receiver.
func (t *turn) receiverField(k int) field {
	receiver := t.field(receiverAt)
	size, e := t.h.Size(receiver)
	// What is in classes and in methods is the machine's own.
	if e != api.OK || k >= size || isOf(t.h, receiver, api.ClassClass) || isOf(t.h, receiver, api.ClassMethod) {
		fail(api.ErrResume)
	}
	return field{receiver, k}
}

// outerTemp is a temporary of the context that is so many closures out.
func (t *turn) outerTemp(outs, k int) field {
	context := t.context
	for range outs {
		next, ok := outer(t.h, context)
		if !ok {
			fail(api.ErrResume)
		}
		context = next
	}
	method := t.fetch(field{context, methodAt})
	m, e := code.Read(t.h, method)
	size, _ := t.h.Size(context)
	if e != api.OK || k >= m.Temps || wordsAt+k >= size {
		fail(api.ErrResume)
	}
	return field{context, wordsAt + k}
}

// liveHome is the home of the context, which may not have returned yet.
func (t *turn) liveHome() api.Word {
	context, ok := home(t.h, t.context)
	if !ok {
		fail(api.ErrResume)
	}
	if t.fetch(field{context, pcAt}) == t.special(api.Nil) {
		fail(api.ErrReturn)
	}
	return context
}

// block is a new one with the method of its body.
func (t *turn) block(body api.Word) api.Word {
	w, e := t.h.Alloc(t.special(api.ClassBlock), blockFields, t.special(api.Nil))
	must(e)
	t.store(field{w, madeInAt}, t.context)
	t.store(field{w, bodyAt}, body)
	t.store(field{w, selfAt}, t.field(receiverAt))
	return w
}
