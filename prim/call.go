package prim

import (
	"tappet/api"
	"tappet/class"
	"tappet/heap"
	"tappet/word"
)

// call is one of a primitive: the heap on which it works, and the words that it is given.
type call struct {
	h        *heap.Heap
	receiver api.Word
	args     []api.Word // as many as the primitive takes
}

// primitive is how many arguments it takes, and what it answers.
type primitive struct {
	takes int
	run   func(call) (api.Word, api.Errno)
}

// first is the least number of a primitive.
const first = 1

// minus is the kind of arithmetic by which a number is negated.
const minus = 1

// primitives are all of them, by their numbers; none has the number 0.
func primitives() []primitive {
	return []primitive{
		1:  {0, call.class},
		2:  {1, call.same},
		3:  {0, call.hash},
		4:  {0, call.countIndexed},
		5:  {1, call.fetchIndexed},
		6:  {2, call.storeIndexed},
		7:  {0, call.create},
		8:  {1, call.createLarger},
		9:  {1, call.fetchAny},
		10: {2, call.storeAny},
		11: {0, call.negate},
	}
}

// class is that of the receiver.
func (c call) class() (api.Word, api.Errno) {
	w := class.Of(c.h, c.receiver)
	if w == 0 {
		return 0, api.ErrFail
	}
	return w, api.OK
}

// same: is the receiver the argument?
func (c call) same() (api.Word, api.Errno) {
	// Without a Root the special is 0, and this is then the answer: nothing but Special says what True is.
	if c.receiver == c.args[0] {
		return class.Special(c.h, api.True), api.OK
	}
	return class.Special(c.h, api.False), api.OK
}

// hash is that of the receiver.
func (c call) hash() (api.Word, api.Errno) {
	n, e := c.h.Hash(c.receiver)
	if e != api.OK {
		return 0, api.ErrFail
	}
	// A heap gives out no hash that is too great for a word.
	return word.FromInt(n)
}

// negate is the receiver with the other sign.
func (c call) negate() (api.Word, api.Errno) {
	zero, _ := word.FromInt(0)
	w, ok := word.Arith(minus, zero, c.receiver)
	if !ok {
		return 0, api.ErrFail
	}
	return w, api.OK
}

// isSpecial: is a word one of these specials?
func (c call) isSpecial(w api.Word, places ...int) bool {
	for _, k := range places {
		if w == class.Special(c.h, k) {
			return true
		}
	}
	return false
}

// permitsMore: may instances of a class have more fields than are named?
func (c call) permitsMore(w api.Word) bool {
	const moreAt = 3
	// A class has this field, so what is answered for other words does not count.
	more, _ := c.h.Fetch(w, moreAt)
	one, _ := word.FromInt(1)
	return class.Is(c.h, w) && more == one
}
