package interp

import (
	"tappet/api"
	"tappet/cache"
	"tappet/class"
	"tappet/heap"
	"tappet/prim"
	"tappet/word"
)

// The primitives that need more than the heap. That of blocks is no primitive of its own: what it does is a send.
const (
	primBlock   = 20
	primOutput  = 21
	primInstall = 22
	primRemove  = 23
)

// call is one of a primitive: what it works on, and the words that it is given.
type call struct {
	h        *heap.Heap
	c        *cache.Cache
	receiver api.Word
	args     []api.Word
}

// run is what a primitive answers, and what it puts out.
func (p call) run(n int) (api.Word, []int, api.Errno) {
	switch n {
	case primOutput:
		return p.output()
	case primInstall:
		return p.install()
	case primRemove:
		return p.remove()
	}
	w, e := prim.Run(p.h, n, p.receiver, p.args)
	return w, nil, e
}

// output puts the receiver out, which has to be an integer.
func (p call) output() (api.Word, []int, api.Errno) {
	n, e := word.Int(p.receiver)
	if e != api.OK || len(p.args) != 0 {
		return 0, nil, api.ErrFail
	}
	return p.receiver, []int{n}, api.OK
}

// install lets the receiver understand a selector by a method.
func (p call) install() (api.Word, []int, api.Errno) {
	if len(p.args) != 2 {
		return 0, nil, api.ErrFail
	}
	return p.changed(class.Install(p.h, p.receiver, p.args[0], p.args[1]))
}

// remove lets the receiver not understand a selector by itself.
func (p call) remove() (api.Word, []int, api.Errno) {
	if len(p.args) != 1 {
		return 0, nil, api.ErrFail
	}
	return p.changed(class.Remove(p.h, p.receiver, p.args[0]))
}

// changed is the answer of a primitive that was to change what a class understands by its first argument.
func (p call) changed(e api.Errno) (api.Word, []int, api.Errno) {
	switch e {
	case api.OK:
		p.c.Drop(p.args[0])
		return p.receiver, nil, api.OK
	case api.ErrMemory:
		return 0, nil, api.ErrMemory
	}
	return 0, nil, api.ErrFail
}
