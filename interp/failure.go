package interp

import (
	"tappet/api"
	"tappet/cache"
	"tappet/heap"
)

// failure is why an instruction is abandoned.
type failure struct{ e api.Errno }

// fail abandons the instruction.
func fail(e api.Errno) { panic(failure{e}) }

// must abandons the instruction if there is an error.
func must(e api.Errno) {
	if e != api.OK {
		fail(e)
	}
}

// attempt is the state behind the instruction at which a state is.
func attempt(h *heap.Heap, c *cache.Cache, s State) (after State, e api.Errno) {
	defer func() {
		if reason := recover(); reason != nil {
			after, e = abandoned(s, reason)
		}
	}()
	return begin(h, c, s).run(), api.OK
}

// abandoned is the state behind an instruction that was abandoned, which has changed nothing.
func abandoned(s State, reason any) (State, api.Errno) {
	f, ok := reason.(failure)
	if !ok {
		// No instruction asked for it, so that it may not look as if the program had done wrong.
		panic(reason)
	}
	// Room may be found for it, so it is not the machine that stops.
	if f.e == api.ErrMemory {
		return s, api.ErrMemory
	}
	s.E = f.e
	return s, api.OK
}
