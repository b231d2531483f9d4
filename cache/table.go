package cache

import (
	"slices"

	"tappet/api"
	"tappet/class"
	"tappet/heap"
)

// maxDrops is how many drops are told at most.
const maxDrops = 64

// key is what a line is known by. Keys are compared as a whole.
type key struct {
	class, selector api.Word
	full            bool // so that an empty line has another key than the class 0 and the selector 0
}

// keyOf is the key of a line that is not empty.
func keyOf(class, selector api.Word) key { return key{class, selector, true} }

// line remembers the method of one key. The zero line is empty.
type line struct {
	key    key
	method api.Word
}

// table is what a cache remembers.
type table struct {
	lines                []line
	drops                []api.Word // the last ones that were not told yet
	remembered, lookedUp int        // how many calls of find each way has answered
}

// place is the line of a key; nil: there are no lines.
func (t *table) place(k key) *line {
	lines := api.Word(len(t.lines))
	if lines == 0 {
		return nil
	}
	return &t.lines[(k.class/2*31+k.selector/2)%lines]
}

// get is the method that the line of a key remembers, if it remembers that of this very key.
func (t *table) get(k key) (api.Word, bool) {
	l := t.place(k)
	if l == nil || l.key != k {
		return 0, false
	}
	return l.method, true
}

// put lets the line of a key remember its method, and nothing else.
func (t *table) put(k key, method api.Word) {
	if l := t.place(k); l != nil {
		*l = line{k, method}
	}
}

// empty empties the lines that remember methods of a selector.
func (t *table) empty(selector api.Word) {
	for k, l := range t.lines {
		if l.key.selector == selector {
			t.lines[k] = line{}
		}
	}
}

// noteDrop keeps a selector to be told. The oldest one gives way, so that what is kept stays bounded if nobody asks.
func (t *table) noteDrop(selector api.Word) {
	if len(t.drops) == maxDrops {
		t.drops = slices.Delete(t.drops, 0, 1)
	}
	t.drops = append(t.drops, selector)
}

// find is the method of a key that is remembered; otherwise that which is looked up, and remembered if there is one.
func (t *table) find(h *heap.Heap, k key) (api.Word, api.Errno) {
	if method, ok := t.get(k); ok {
		t.remembered++
		return method, api.OK
	}
	t.lookedUp++
	method, e := class.Lookup(h, k.class, k.selector)
	if e != api.OK {
		return 0, e
	}
	t.put(k, method)
	return method, api.OK
}
