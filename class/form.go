package class

import (
	"iter"

	"tappet/api"
	"tappet/heap"
	"tappet/word"
)

// Where a class has what it says among its fields, and how many it has.
const (
	superAt = iota
	dictAt
	fieldsAt
	moreAt
	classFields
)

// maxNamed is how many fields a class may ask of its instances.
const maxNamed = 64

// form is what a class says.
type form struct {
	super  api.Word // Nil: there is none
	dict   api.Word // 0: there is none
	fields int      // how many its instances have at least
	more   bool     // may they have more?
}

// isOf: is a word an object of a special class?
func isOf(h *heap.Heap, w api.Word, k int) bool {
	class, e := h.Class(w)
	return e == api.OK && class == Special(h, k)
}

// isNone: is a word Nil, where that stands for no object? The word 0 never does so, even if it is the special.
func isNone(h *heap.Heap, w api.Word) bool {
	return w != 0 && w == Special(h, api.Nil)
}

// read is what a word says that is a class.
func read(h *heap.Heap, w api.Word) (form, bool) {
	size, _ := h.Size(w)
	if size != classFields || !isOf(h, w, api.ClassClass) {
		return form{}, false
	}
	// The object is there and has these fields, so none of the heap's answers is an error.
	var says [classFields]api.Word
	for k := range says {
		says[k], _ = h.Fetch(w, k)
	}
	super := says[superAt]
	if !isOf(h, super, api.ClassClass) && !isNone(h, super) {
		return form{}, false
	}
	dict, ok := readDict(h, says[dictAt])
	if !ok {
		return form{}, false
	}
	fields, e := word.Int(says[fieldsAt])
	if e != api.OK || fields < 0 || fields > maxNamed {
		return form{}, false
	}
	more, e := word.Int(says[moreAt])
	if e != api.OK || more < 0 || more > 1 {
		return form{}, false
	}
	return form{super, dict, fields, more == 1}, true
}

// readDict is the dictionary that a class names, 0 for none; false if the word is not such.
func readDict(h *heap.Heap, w api.Word) (api.Word, bool) {
	// Nil may itself be an array: it is no dictionary all the same.
	if isNone(h, w) {
		return 0, true
	}
	size, _ := h.Size(w)
	if !isOf(h, w, api.ClassArray) || size%pairFields != 0 {
		return 0, false
	}
	return w, true
}

// lineage are a class and its superclasses, as long as they are classes, with what they say.
func lineage(h *heap.Heap, class api.Word) iter.Seq2[api.Word, form] {
	return func(yield func(api.Word, form) bool) {
		// Each object has words of its own: whoever takes more steps than there are words goes round in a ring, where nothing is new.
		for range h.Used() {
			f, ok := read(h, class)
			if !ok || !yield(class, f) {
				return
			}
			class = f.super
		}
	}
}
