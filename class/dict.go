package class

import (
	"iter"

	"tappet/api"
	"tappet/heap"
	"tappet/verify"
)

// Where the words of a pair are, from the field on at which it begins, and how many it has.
const (
	selectorAt = iota
	methodAt
	pairFields
)

// pair is one of a dictionary. It is a hole if its selector is Nil.
type pair struct{ selector, method api.Word }

// hole is what a pair is when it is removed.
func hole(h *heap.Heap) pair {
	none := Special(h, api.Nil)
	return pair{none, none}
}

// isSelector: may a word be looked up?
func isSelector(h *heap.Heap, w api.Word) bool {
	return h.Has(w) && w != Special(h, api.Nil)
}

// runs: may a method be in the dictionary of a class whose methods may name so many fields?
func runs(h *heap.Heap, method api.Word, fields int) bool {
	_, e := verify.Check(h, method, fields, nil)
	return e == api.OK && isOf(h, method, api.ClassMethod)
}

// pairAt is the pair that begins at a field.
func pairAt(h *heap.Heap, dict api.Word, k int) pair {
	selector, _ := h.Fetch(dict, k+selectorAt)
	method, _ := h.Fetch(dict, k+methodAt)
	return pair{selector, method}
}

// setPair lets the pair that begins at a field be another one. Its words are valid, so that none of the heap's answers is an error.
func setPair(h *heap.Heap, dict api.Word, k int, p pair) {
	h.Store(dict, k+selectorAt, p.selector)
	h.Store(dict, k+methodAt, p.method)
}

// pairs are those of a dictionary, holes among them, with the fields at which they begin. No dictionary has none.
func pairs(h *heap.Heap, dict api.Word) iter.Seq2[int, pair] {
	return func(yield func(int, pair) bool) {
		size, _ := h.Size(dict)
		for k := 0; k < size; k += pairFields {
			if !yield(k, pairAt(h, dict, k)) {
				return
			}
		}
	}
}

// find is where the first pair with a selector begins.
func find(h *heap.Heap, dict, selector api.Word) (int, bool) {
	for k, p := range pairs(h, dict) {
		if p.selector == selector {
			return k, true
		}
	}
	return 0, false
}

// findHole is where the first hole begins.
func findHole(h *heap.Heap, dict api.Word) (int, bool) {
	return find(h, dict, Special(h, api.Nil))
}

// holds: does a method stand in a dictionary? What is left in a hole does not.
func holds(h *heap.Heap, dict, method api.Word) bool {
	none := Special(h, api.Nil)
	for _, p := range pairs(h, dict) {
		if p.method == method && p.selector != none {
			return true
		}
	}
	return false
}

// extend gives a class a new dictionary, with one more pair than the old one has.
func extend(h *heap.Heap, class, old api.Word, p pair) api.Errno {
	size, _ := h.Size(old)
	if size+pairFields > api.MaxFields {
		return api.ErrMemory
	}
	next, e := h.Alloc(Special(h, api.ClassArray), size+pairFields, Special(h, api.Nil))
	if e != api.OK {
		return e
	}
	for k, q := range pairs(h, old) {
		setPair(h, next, k, q)
	}
	setPair(h, next, size, p)
	return h.Store(class, dictAt, next)
}
