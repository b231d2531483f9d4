package interp

import (
	"slices"

	"tappet/api"
)

// top is the word on top of the stack.
func (t *turn) top() api.Word {
	if n := len(t.pushed); n > 0 {
		return t.pushed[n-1]
	}
	return t.field(wordsAt + t.method.Temps + t.kept - 1)
}

// push lays a word on the stack.
func (t *turn) push(v api.Word) { t.pushed = append(t.pushed, v) }

// pop takes the word on top.
func (t *turn) pop() api.Word {
	v := t.top()
	if n := len(t.pushed); n > 0 {
		t.pushed = t.pushed[:n-1]
	} else {
		t.kept--
	}
	return v
}

// popAll takes some words; the one that was on top is the last of them.
func (t *turn) popAll(n int) []api.Word {
	var l []api.Word
	for range n {
		l = append(l, t.pop())
	}
	slices.Reverse(l)
	return l
}
