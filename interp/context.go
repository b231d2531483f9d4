package interp

import (
	"tappet/api"
	"tappet/class"
	"tappet/code"
	"tappet/heap"
	"tappet/verify"
	"tappet/word"
)

// Where a context has what it says among its fields; its words, the temporaries and the stack, are behind that.
const (
	senderAt = iota
	pcAt
	heldAt
	methodAt
	receiverAt
	closureAt
	wordsAt
)

// Where a block has what it says, and how many fields it has.
const (
	madeInAt = iota
	bodyAt
	selfAt
	blockFields
)

// maxExamined is how many contexts are examined on the way to a home.
const maxExamined = 256

// integer is the word of a number that is known to have one.
func integer(n int) api.Word {
	w, _ := word.FromInt(n)
	return w
}

// numberAt is what a field says that holds an integer.
func numberAt(h *heap.Heap, w api.Word, k int) (int, bool) {
	v, e := h.Fetch(w, k)
	if e != api.OK {
		return 0, false
	}
	n, e := word.Int(v)
	return n, e == api.OK
}

// areValid: may these words be in fields?
func areValid(h *heap.Heap, words ...api.Word) bool {
	for _, w := range words {
		if w != 0 && !word.IsInt(w) && !h.Has(w) {
			return false
		}
	}
	return true
}

// isOf: is a word an object of a special class?
func isOf(h *heap.Heap, w api.Word, k int) bool {
	of, e := h.Class(w)
	return e == api.OK && of == class.Special(h, k)
}

// isNone: is a word Nil, where that stands for no sender? The word 0 never does so, even if it is the special.
func isNone(h *heap.Heap, w api.Word) bool {
	return w != 0 && w == class.Special(h, api.Nil)
}

// place is where a resumable context is in its method.
type place struct {
	method api.Method
	pc     int
	depth  int // of the stack ahead of the instruction there
}

// resumed is the place at which a context goes on; false if it is not resumable.
func resumed(h *heap.Heap, w api.Word) (place, bool) {
	if !isOf(h, w, api.ClassContext) {
		return place{}, false
	}
	method, _ := h.Fetch(w, methodAt)
	m, e := code.Read(h, method)
	if e != api.OK || !isOf(h, method, api.ClassMethod) {
		return place{}, false
	}
	depths, _, e := verify.Depths(m)
	pc, ok := numberAt(h, w, pcAt)
	if e != api.OK || !ok || pc < 0 || pc >= len(depths) || depths[pc] < 0 {
		return place{}, false
	}
	held, ok := numberAt(h, w, heldAt)
	size, _ := h.Size(w)
	if !ok || held != m.Temps+depths[pc] || size < wordsAt+m.Temps+m.Stack {
		return place{}, false
	}
	return place{m, pc, depths[pc]}, true
}

// outer is the context in which the block was made that a context runs; false if there is none.
func outer(h *heap.Heap, context api.Word) (api.Word, bool) {
	closure, _ := h.Fetch(context, closureAt)
	if !isOf(h, closure, api.ClassBlock) {
		return 0, false
	}
	madeIn, _ := h.Fetch(closure, madeInAt)
	return madeIn, isOf(h, madeIn, api.ClassContext)
}

// home is the context that runs no block to which the closures of a context lead; false if there is none, or none that is near enough.
func home(h *heap.Heap, context api.Word) (api.Word, bool) {
	none := class.Special(h, api.Nil)
	for range maxExamined {
		closure, e := h.Fetch(context, closureAt)
		if e != api.OK {
			return 0, false
		}
		if closure == none {
			return context, true
		}
		next, ok := outer(h, context)
		if !ok {
			return 0, false
		}
		context = next
	}
	return 0, false
}
