package interp_test

import (
	"fmt"
	"testing"

	"tappet/api"
	"tappet/interp"
)

// P10.6: what is outside of blocks, and returns

// chain are contexts that lead by their closures from one to the next, and on to the last one, with so many between.
func (w *world) chain(t *testing.T, from, last api.Word, between int) []api.Word {
	t.Helper()
	l := words(from)
	for range between {
		l = append(l, w.begin(t, w.number, w.instance))
	}
	l = append(l, last)
	for k, x := range l[1:] {
		store(t, w.h, l[k], 5, put(t, w.h, w.s[6], x, w.number, w.instance))
	}
	return l
}

// brokenChain is a way from a context to a home: whole, or broken in one way.
type brokenChain struct {
	what  string
	whole bool
	build func(t *testing.T, w *world, from, home api.Word)
}

func brokenChains() []brokenChain {
	// spoil breaks a chain of four at one of its ends.
	spoil := func(at int, change func(t *testing.T, w *world, x, closure api.Word)) func(*testing.T, *world, api.Word, api.Word) {
		return func(t *testing.T, w *world, from, home api.Word) {
			l := w.chain(t, from, home, 2)
			change(t, w, l[at], fetch(t, w.h, l[at], 5))
		}
	}
	var list []brokenChain
	for _, between := range []int{0, 1, 2, 253, 254, 255, 256, 300} {
		list = append(list, brokenChain{fmt.Sprint(between, " between"), between <= 254, func(t *testing.T, w *world, from, home api.Word) { w.chain(t, from, home, between) }})
	}
	for at := range 3 {
		for what, change := range map[string]func(t *testing.T, w *world, x, closure api.Word){
			"a closure that is a number":             func(t *testing.T, w *world, x, _ api.Word) { store(t, w.h, x, 5, num(3)) },
			"a closure that is the word 0":           func(t *testing.T, w *world, x, _ api.Word) { store(t, w.h, x, 5, 0) },
			"a closure that is a context":            func(t *testing.T, w *world, x, _ api.Word) { store(t, w.h, x, 5, x) },
			"a closure of another class":             func(t *testing.T, w *world, _, closure api.Word) { reclass(t, w.h, closure, w.s[8]) },
			"a block that was made in Nil":           func(t *testing.T, w *world, _, closure api.Word) { store(t, w.h, closure, 0, w.s[0]) },
			"a block that was made in a number":      func(t *testing.T, w *world, _, closure api.Word) { store(t, w.h, closure, 0, num(2)) },
			"a block that was made in what is none":  func(t *testing.T, w *world, _, closure api.Word) { store(t, w.h, closure, 0, w.filled) },
			"a block that was made in its own frame": func(t *testing.T, w *world, x, closure api.Word) { store(t, w.h, closure, 0, x) },
			"a closure without fields":               func(t *testing.T, w *world, x, _ api.Word) { store(t, w.h, x, 5, put(t, w.h, w.s[6])) },
			"a block in a context that is too little": func(t *testing.T, w *world, _, closure api.Word) {
				store(t, w.h, closure, 0, put(t, w.h, w.s[4], w.s[0], num(0), num(0), w.number, num(1)))
			},
		} {
			list = append(list, brokenChain{fmt.Sprint(what, " at ", at), false, spoil(at, change)})
		}
	}
	list = append(list, brokenChain{"a method of the block that is none", true, spoil(1, func(t *testing.T, w *world, x, closure api.Word) {
		store(t, w.h, closure, 1, num(3))
		store(t, w.h, x, 3, num(3))
	})})
	return list
}

func TestOuter(t *testing.T) {
	w := newWorld(t, 32768)
	method := w.method(t, api.Method{Temps: 3, Stack: 1, Code: body(in(api.OpReturnSelf))})
	for outs := range 5 {
		for k := range 3 {
			push := w.padded(t, in(api.OpPushOuter, outs, k), w.instance, nil, a, b, x)
			pop := w.padded(t, in(api.OpPopOuter, outs, k), w.instance, nil, a, b, x, num(55))
			last := w.at(t, method, w.filled, 0, num(80), num(81), num(82))
			s := interp.State{Active: push, Out: []int{4}}
			if outs == 0 {
				if k < 2 {
					becomes(t, "push", w.h, nil, s, s, api.OK, pictureOf(w.h).settled(push, w.s[0], 3, 4, a, b, x, words(a, b)[k]))
					becomes(t, "pop", w.h, nil, interp.State{Active: pop}, interp.State{Active: pop}, api.OK, pictureOf(w.h).settled(pop, w.s[0], 4, 5, a, b, x).with(pop, 6+k, num(55)))
				} else {
					stops(t, "push", w.h, nil, s, api.ErrResume)
				}
				continue
			}
			w.chain(t, push, last, outs-1)
			w.chain(t, pop, last, outs-1)
			becomes(t, "push", w.h, nil, s, s, api.OK, pictureOf(w.h).settled(push, w.s[0], 3, 4, a, b, x, num(80+k)))
			s = interp.State{Active: pop, Out: []int{4}}
			becomes(t, "pop", w.h, nil, s, s, api.OK, pictureOf(w.h).settled(pop, w.s[0], 4, 5, a, b, x).with(last, 6+k, num(55)))
		}
	}
	w.fit(t, "outer temporaries")
}

// As many closures out as an operand may say, round a ring.
func TestOuterRing(t *testing.T) {
	w := newWorld(t, 4096)
	for _, c := range []struct{ outs, of int }{{4095, 1}, {4094, 0}, {2, 0}, {3, 1}} {
		from := w.padded(t, in(api.OpPushOuter, c.outs, 1), w.instance, nil, num(70), num(71), x)
		other := w.at(t, w.method(t, api.Method{Temps: 2, Code: body(in(api.OpReturnSelf))}), w.instance, 0, num(80), num(81))
		w.chain(t, from, other, 0)
		w.chain(t, other, from, 0)
		s := interp.State{Active: from}
		becomes(t, "a ring", w.h, nil, s, s, api.OK, pictureOf(w.h).settled(from, w.s[0], 3, 4, num(70), num(71), x, words(num(71), num(81))[c.of]))
	}
}

// Each of the conditions on its own.
func TestOuterStops(t *testing.T) {
	for what, change := range map[string]func(w *world, from, between, last api.Word){
		"no closure":                     func(w *world, from, _, _ api.Word) { store(t, w.h, from, 5, w.s[0]) },
		"no closure on the way":          func(w *world, _, between, _ api.Word) { store(t, w.h, between, 5, w.s[0]) },
		"a number as closure":            func(w *world, _, between, _ api.Word) { store(t, w.h, between, 5, num(4)) },
		"a closure of another class":     func(w *world, _, between, _ api.Word) { reclass(t, w.h, fetch(t, w.h, between, 5), w.s[8]) },
		"made in no context":             func(w *world, _, between, _ api.Word) { store(t, w.h, fetch(t, w.h, between, 5), 0, w.filled) },
		"made in Nil":                    func(w *world, from, _, _ api.Word) { store(t, w.h, fetch(t, w.h, from, 5), 0, w.s[0]) },
		"a context of another class":     func(w *world, _, _, last api.Word) { reclass(t, w.h, last, w.s[8]) },
		"between, one of another class":  func(w *world, _, between, _ api.Word) { reclass(t, w.h, between, w.s[8]) },
		"no method":                      func(w *world, _, _, last api.Word) { store(t, w.h, last, 3, w.list) },
		"the method Nil":                 func(w *world, _, _, last api.Word) { store(t, w.h, last, 3, w.s[0]) },
		"a method with few temporaries":  func(w *world, _, _, last api.Word) { store(t, w.h, last, 3, w.number) },
		"a method with one less of them": func(w *world, _, _, last api.Word) { store(t, w.h, fetch(t, w.h, last, 3), 1, num(2)) },
	} {
		for _, op := range []int{api.OpPushOuter, api.OpPopOuter} {
			w := newWorld(t, 4096)
			l := words(a, b, x)
			if op == api.OpPopOuter {
				l = append(l, num(55))
			}
			from := w.padded(t, in(op, 2, 2), w.instance, nil, l...)
			last := w.at(t, w.method(t, api.Method{Temps: 3, Code: body(in(api.OpReturnSelf))}), w.filled, 0, num(80), num(81), num(82))
			way := w.chain(t, from, last, 1)
			change(w, way[0], way[1], way[2])
			stops(t, what, w.h, nil, interp.State{Active: from, Out: []int{3}}, api.ErrResume)
		}
	}
}

// The context must have the field, and need not have more of what one has.
func TestOuterSize(t *testing.T) {
	w := newWorld(t, 8192)
	method := w.method(t, api.Method{Temps: 3, Code: body(in(api.OpDrop))})
	reclass(t, w.h, method, w.s[8])
	for size := range 10 {
		for k := range 4 {
			last := put(t, w.h, w.s[4], words(num(1), w.s[0], num(9), method, num(4), num(5), num(6), num(7), num(8), num(9))[:size]...)
			from := w.padded(t, in(api.OpPushOuter, 1, k), w.instance, nil, a, b, x)
			w.chain(t, from, last, 0)
			s, what := interp.State{Active: from}, fmt.Sprintf("temporary %d of %d fields", k, size)
			if k < 3 && 6+k < size {
				becomes(t, what, w.h, nil, s, s, api.OK, pictureOf(w.h).settled(from, w.s[0], 3, 4, a, b, x, num(6+k)))
			} else {
				stops(t, what, w.h, nil, s, api.ErrResume)
			}
		}
	}
}

// returns are the instructions by which a context returns, with what it returns then.
func returns(w *world) map[int]api.Word {
	return map[int]api.Word{api.OpReturn: x, api.OpBlockReturn: x, api.OpReturnSelf: w.instance}
}

func TestReturn(t *testing.T) {
	w := newWorld(t, 16384)
	for op, v := range returns(w) {
		// To a context.
		from := w.padded(t, in(op), w.instance, nil, a, b, x)
		to := w.at(t, w.method(t, deep()), w.filled, 0, num(1), num(2))
		store(t, w.h, from, 0, to)
		after := pictureOf(w.h).with(from, 0, w.s[0], w.s[0]).with(to, 2, num(3)).with(to, 8, v)
		becomes(t, "to a context", w.h, nil, interp.State{Active: from, Out: []int{5}}, interp.State{Active: to, Out: []int{5}}, api.OK, after)
		// It has returned, and can't be gone on with.
		stops(t, "it has returned", w.h, nil, interp.State{Active: from}, api.ErrResume)
		// To Nil.
		from = w.padded(t, in(op), w.instance, nil, a, b, x)
		after = pictureOf(w.h).with(from, 0, w.s[0], w.s[0])
		becomes(t, "to Nil", w.h, nil, interp.State{Active: from, Out: []int{5}}, interp.State{Active: from, Out: []int{5}, Done: true, Result: v}, api.OK, after)
		// To what is neither.
		full := w.at(t, w.number, w.instance, 0, num(1))
		for _, to := range words(num(3), 0, w.list, w.thing, full) {
			from = w.padded(t, in(op), w.instance, nil, a, b, x)
			store(t, w.h, from, 0, to)
			after = pictureOf(w.h).with(from, 0, w.s[0], w.s[0])
			becomes(t, "to what is neither", w.h, nil, interp.State{Active: from}, interp.State{Active: from, E: api.ErrResume}, api.OK, after)
		}
		// To itself.
		from = w.padded(t, in(op), w.instance, nil, a, b, x)
		store(t, w.h, from, 0, from)
		after = pictureOf(w.h).with(from, 0, w.s[0], w.s[0], num(4)).with(from, 9, v)
		becomes(t, "to itself", w.h, nil, interp.State{Active: from}, interp.State{Active: from}, api.OK, after)
	}
	w.fit(t, "returns")
}

// A receiver is returned even if the stack is full, or has no room at all.
func TestReturnSelf(t *testing.T) {
	w := newWorld(t, 2048)
	from := w.start(t, num(-4), api.Method{Code: body(in(api.OpReturnSelf))})
	ends(t, "no stack", w, from, true, num(-4), api.OK)
	from = w.start(t, w.list, api.Method{Stack: 1, Code: body(in(api.OpPushInt), in(api.OpReturnSelf))})
	ends(t, "a full stack", w, from, true, w.list, api.OK)
}

func TestFarReturn(t *testing.T) {
	w := newWorld(t, 16384)
	for between := range 3 {
		from := w.padded(t, in(api.OpFarReturn), w.instance, nil, a, b, x)
		to := w.at(t, w.method(t, deep()), w.filled, 0, num(1), num(2))
		home := w.at(t, w.method(t, deep()), w.filled, 0, num(3), num(4))
		store(t, w.h, home, 0, to)
		w.chain(t, from, home, between)
		// The active context is not changed, whatever its sender is.
		after := pictureOf(w.h).with(home, 0, w.s[0], w.s[0]).with(to, 2, num(3)).with(to, 8, x)
		becomes(t, "to a context", w.h, nil, interp.State{Active: from, Out: []int{5}}, interp.State{Active: to, Out: []int{5}}, api.OK, after)
		stops(t, "a second time", w.h, nil, interp.State{Active: from, Out: []int{5}}, api.ErrReturn)
		// Where the home has no sender, all is done.
		store(t, w.h, home, 1, num(0))
		after = pictureOf(w.h).with(home, 0, w.s[0], w.s[0])
		becomes(t, "to Nil", w.h, nil, interp.State{Active: from}, interp.State{Active: from, Done: true, Result: x}, api.OK, after)
		// Or its sender is neither.
		for _, to := range words(num(2), 0, w.list) {
			set(t, w.h, home, to, num(0))
			after = pictureOf(w.h).with(home, 0, w.s[0], w.s[0])
			becomes(t, "to what is neither", w.h, nil, interp.State{Active: from}, interp.State{Active: from, E: api.ErrResume}, api.OK, after)
		}
		// It may be the active context itself, which still holds the word.
		set(t, w.h, home, from, num(0))
		after = pictureOf(w.h).with(home, 0, w.s[0], w.s[0]).with(from, 2, num(4)).with(from, 9, x)
		becomes(t, "to the active context", w.h, nil, interp.State{Active: from}, interp.State{Active: from}, api.OK, after)
	}
	w.fit(t, "far returns")
}

// A home that is no resumable context returns all the same, unless its pc is Nil. A context that runs no block is its own home.
func TestFarReturnOfAnyHome(t *testing.T) {
	w := newWorld(t, 8192)
	for _, pc := range words(num(0), num(-1), num(1000), w.list, 0) {
		from := w.padded(t, in(api.OpFarReturn), w.instance, nil, a, b, x)
		home := put(t, w.h, w.s[4], w.s[0], pc, w.s[0], num(4), num(5), w.s[0])
		w.chain(t, from, home, 0)
		after := pictureOf(w.h).with(home, 1, w.s[0])
		becomes(t, "any home", w.h, nil, interp.State{Active: from}, interp.State{Active: from, Done: true, Result: x}, api.OK, after)
		stops(t, "any home", w.h, nil, interp.State{Active: from}, api.ErrReturn)
	}
	from := w.padded(t, in(api.OpFarReturn), w.instance, nil, a, b, x)
	after := pictureOf(w.h).with(from, 1, w.s[0])
	becomes(t, "its own home", w.h, nil, interp.State{Active: from}, interp.State{Active: from, Done: true, Result: x}, api.OK, after)
}

func TestFarReturnWithoutHome(t *testing.T) {
	for _, c := range brokenChains() {
		w := newWorld(t, 32768)
		from := w.padded(t, in(api.OpFarReturn), w.instance, nil, a, b, x)
		home := w.at(t, w.method(t, deep()), w.filled, 0, num(3), num(4))
		c.build(t, w, from, home)
		s := interp.State{Active: from, Out: []int{3}}
		if !c.whole {
			stops(t, c.what, w.h, nil, s, api.ErrResume)
			continue
		}
		after := pictureOf(w.h).with(home, 1, w.s[0])
		becomes(t, c.what, w.h, nil, s, interp.State{Active: from, Out: []int{3}, Done: true, Result: x}, api.OK, after)
		stops(t, c.what, w.h, nil, s, api.ErrReturn)
	}
}

// Example 5 of the document, with all that leads to it: a return from a block whose home has returned.
func TestBlockThatOutlivesItsHome(t *testing.T) {
	w := newWorld(t, 8192)
	value, give := w.selectors[0], w.selectors[1]
	w.install(t, w.s[6], value, withPrim(20, 0))
	far := w.method(t, api.Method{Stack: 1, Code: body(in(api.OpPushInt, 2048+6), in(api.OpFarReturn))})
	w.install(t, w.thing, give, api.Method{Stack: 1, Lits: words(far), Code: body(in(api.OpPushBlock, 0), in(api.OpReturn))})
	from := w.start(t, w.instance, api.Method{Stack: 1, Lits: words(give, value), Code: body(in(api.OpPushSelf), in(api.OpSend, 0, 0), in(api.OpSend, 1, 0), in(api.OpReturn))})
	ends(t, "its home has returned", w, from, false, 0, api.ErrReturn)
	// While the home is there, it returns what the block says.
	from = w.start(t, w.instance, api.Method{Stack: 1, Lits: words(far, value), Code: body(in(api.OpPushBlock, 0), in(api.OpSend, 1, 0), in(api.OpDrop), in(api.OpPushInt, 2048), in(api.OpReturn))})
	ends(t, "its home is there", w, from, true, num(6), api.OK)
}

// A block that counts in a temporary of its home, and returns to who called it.
func TestBlockThatCounts(t *testing.T) {
	w := newWorld(t, 8192)
	value := w.selectors[0]
	w.install(t, w.s[6], value, withPrim(20, 1))
	add := w.method(t, api.Method{Args: 1, Temps: 1, Stack: 2, Code: body(
		in(api.OpPushOuter, 1, 0), in(api.OpPushTemp, 0), in(api.OpArith, 0), in(api.OpPopOuter, 1, 0), in(api.OpPushSelf), in(api.OpBlockReturn))})
	from := w.start(t, w.instance, api.Method{Temps: 1, Stack: 3, Lits: words(add, value), Code: body(
		in(api.OpPushInt, 2048+40), in(api.OpPopTemp, 0),
		in(api.OpPushBlock, 0), in(api.OpDup), in(api.OpPushInt, 2048+3), in(api.OpSend, 1, 1), in(api.OpDrop), in(api.OpPushInt, 2048-1), in(api.OpSend, 1, 1), in(api.OpDrop),
		in(api.OpPushTemp, 0), in(api.OpReturn))})
	ends(t, "a count", w, from, true, num(42), api.OK)
}
