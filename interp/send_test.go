package interp_test

import (
	"fmt"
	"slices"
	"testing"

	"tappet/api"
	"tappet/cache"
	"tappet/class"
	"tappet/interp"
)

// P10.6: SEND

// a and b are in the temporaries of a sender, and x is on its stack, below what a send takes.
var a, b, x = num(100), num(101), num(102)

// sender is a context that is about to send literal 0 to a receiver, with arguments; it has the padded method's two temporaries and one more word on its stack.
func (w *world) sender(t *testing.T, op int, selector, receiver api.Word, args ...api.Word) api.Word {
	t.Helper()
	return w.padded(t, in(op, 0, len(args)), w.instance, words(selector), append(words(a, b, x, receiver), args...)...)
}

// sent is the picture with a sender that goes on behind its send, and holds these words beside those that it always has.
func (p picture) sent(w *world, from api.Word, args int, more ...api.Word) picture {
	return p.settled(from, w.s[0], 4+args, 5+args, append(words(a, b, x), more...)...)
}

// context is the picture with one more context, whose method has temporaries for its arguments and a stack of one word.
func (p picture) context(w *world, from, method, receiver, closure api.Word, args ...api.Word) picture {
	l := append(words(from, num(0), num(len(args)), method, receiver, closure), args...)
	return p.add(w.s[4], append(l, w.s[0])...)
}

// sendsTo does a send that a method of the receiver answers, or one of a block.
func sendsTo(t *testing.T, what string, w *world, c *cache.Cache, from, method, receiver, closure api.Word, sent int, args ...api.Word) {
	t.Helper()
	after := pictureOf(w.h).sent(w, from, sent).context(w, from, method, receiver, closure, args...)
	becomes(t, what, w.h, c, interp.State{Active: from, Out: []int{3}}, interp.State{Active: ref(w.h.Used()), Out: []int{3}}, api.OK, after)
}

func TestSend(t *testing.T) {
	for name, c := range caches(t) {
		w := newWorld(t, 16384)
		// Integers, classes, methods and the others understand what thing does.
		for args := range 5 {
			m := w.install(t, w.thing, w.selectors[args], withPrim(0, args))
			l := words(num(1), num(2), w.list, w.s[0])[:args]
			for _, receiver := range words(w.instance, num(5), num(least), w.thing, w.pair, m, w.context, w.block, w.list, w.s[0], w.s[1], w.selectors[7]) {
				from := w.sender(t, api.OpSend, w.selectors[args], receiver, l...)
				sendsTo(t, name, w, c, from, m, receiver, w.s[0], args, l...)
			}
			n := w.install(t, w.pair, w.selectors[args], withPrim(0, args))
			c.Clear()
			from := w.sender(t, api.OpSend, w.selectors[args], w.instance, l...)
			sendsTo(t, name, w, c, from, n, w.instance, w.s[0], args, l...)
		}
		w.fit(t, name)
	}
}

func TestSendOfWhatIsNotUnderstood(t *testing.T) {
	for name, c := range caches(t) {
		w := newWorld(t, 16384)
		one := w.selectors[0]
		for _, selector := range words(one, w.s[0], num(3), w.s[9]) {
			for _, receiver := range words(w.instance, num(5), w.thing) {
				stops(t, name, w.h, c, interp.State{Active: w.sender(t, api.OpSend, selector, receiver, num(1)), Out: []int{2}}, api.ErrLookup)
			}
		}
		m := w.install(t, w.thing, w.s[9], withPrim(0, 1))
		for _, selector := range words(one, w.s[0], num(3)) {
			for _, receiver := range words(w.instance, num(5), w.thing) {
				for args := range 5 {
					from := w.sender(t, api.OpSend, selector, receiver, words(num(1), num(2), num(3), num(4))[:args]...)
					sendsTo(t, name, w, c, from, m, receiver, w.s[0], args, selector)
				}
			}
		}
		// What answers then may take another number of arguments.
		w.install(t, w.pair, w.s[9], withPrim(0, 2))
		stops(t, name, w.h, nil, interp.State{Active: w.sender(t, api.OpSend, one, w.instance, num(1), num(2))}, api.ErrArg)
		// Or have a primitive: it has the selector as its argument.
		w.install(t, w.triple, w.s[9], withPrim(2, 1))
		from := w.sender(t, api.OpSend, one, w.instance, num(1), num(2))
		s := interp.State{Active: from}
		becomes(t, name, w.h, nil, s, s, api.OK, pictureOf(w.h).sent(w, from, 2, w.s[2]))
	}
}

func TestSendStops(t *testing.T) {
	w := newWorld(t, 8192)
	one := w.selectors[0]
	w.install(t, w.thing, one, withPrim(0, 1))
	w.install(t, w.s[3], one, withPrim(11, 1))
	for _, receiver := range words(w.instance, num(5)) {
		for args := range 5 {
			if args != 1 {
				from := w.sender(t, api.OpSend, one, receiver, slices.Repeat(words(num(1)), args)...)
				stops(t, "another number of arguments", w.h, lines(t, 2), interp.State{Active: from}, api.ErrArg)
			}
		}
	}
	// What a cache remembers by mistake.
	for _, m := range words(0, num(3), w.list, w.s[0], ref(4000), w.context) {
		c := lines(t, 4)
		c.Put(w.triple, w.selectors[1], m)
		for args := range 3 {
			from := w.sender(t, api.OpSend, w.selectors[1], w.instance, slices.Repeat(words(num(1)), args)...)
			stops(t, "no method", w.h, c, interp.State{Active: from}, api.ErrMethod)
		}
	}
	// A method need not be of ClassMethod to be activated; its context stops.
	odd := w.method(t, withPrim(0, 0))
	reclass(t, w.h, odd, w.s[8])
	c := lines(t, 4)
	c.Put(w.triple, w.selectors[1], odd)
	from := w.sender(t, api.OpSend, w.selectors[1], w.instance)
	sendsTo(t, "an array", w, c, from, odd, w.instance, w.s[0], 0)
	stops(t, "an array", w.h, c, interp.State{Active: ref(w.h.Used() - 3 - 7)}, api.ErrResume)
}

func TestSendToPrimitive(t *testing.T) {
	w := newWorld(t, 16384)
	for k, c := range []struct {
		n        int
		receiver api.Word
		args     []api.Word
		want     api.Word
		out      []int
	}{
		{1, w.instance, nil, w.triple, nil}, {1, num(5), nil, w.s[3], nil}, {2, w.list, words(w.list), w.s[1], nil}, {2, w.list, words(num(1)), w.s[2], nil},
		{4, w.filled, nil, num(2), nil}, {5, w.filled, words(num(1)), num(21), nil}, {9, w.instance, words(num(3)), num(12), nil},
		{11, num(5), nil, num(-5), nil}, {21, num(7), nil, num(7), []int{7}}, {21, num(least), nil, num(least), []int{least}},
		// These fail, and the method's code answers.
		{5, w.filled, words(num(3)), 0, nil}, {9, w.pair, words(num(1)), 0, nil}, {11, num(least), nil, 0, nil}, {11, w.list, nil, 0, nil}, {21, w.list, nil, 0, nil},
		{21, num(7), words(num(1)), 0, nil}, {22, w.pair, words(num(1), w.number), 0, nil}, {23, w.pair, words(w.selectors[7]), 0, nil}, {22, w.pair, nil, 0, nil}, {7, w.s[3], nil, 0, nil},
		{12, num(5), nil, 0, nil}, {19, num(5), nil, 0, nil}, {24, num(5), nil, 0, nil}, {255, num(5), words(num(1), num(2), num(3), num(4)), 0, nil}, {20, num(5), nil, 0, nil},
		{20, w.list, words(num(1)), 0, nil}, {1, num(5), words(num(1)), 0, nil},
	} {
		what := fmt.Sprintf("call %d of primitive %d", k, c.n)
		m := w.install(t, w.thing, w.selectors[0], withPrim(c.n, len(c.args)))
		from := w.sender(t, api.OpSend, w.selectors[0], c.receiver, c.args...)
		if c.want == 0 {
			sendsTo(t, what, w, nil, from, m, c.receiver, w.s[0], len(c.args), c.args...)
			continue
		}
		s := interp.State{Active: from, Out: []int{1, 2}}
		want := s
		want.Out = append([]int{1, 2}, c.out...)
		becomes(t, what, w.h, nil, s, want, api.OK, pictureOf(w.h).sent(w, from, len(c.args), c.want))
	}
	w.fit(t, "primitives")
}

// Primitives that change the heap.
func TestSendToPrimitiveWithEffect(t *testing.T) {
	w := newWorld(t, 8192)
	c := lines(t, 64)
	one, two := w.selectors[0], w.selectors[1]
	w.install(t, w.thing, one, withPrim(8, 1))
	from := w.sender(t, api.OpSend, one, w.bag, num(2))
	s := interp.State{Active: from}
	becomes(t, "new", w.h, c, s, s, api.OK, pictureOf(w.h).sent(w, from, 1, ref(w.h.Used())).add(w.bag, w.s[0], w.s[0], w.s[0]))
	w.install(t, w.thing, two, withPrim(22, 2))
	c.Put(w.triple, w.selectors[2], num(1))
	from = w.sender(t, api.OpSend, two, w.pair, w.selectors[2], w.number)
	s = interp.State{Active: from}
	after := pictureOf(w.h).sent(w, from, 2, w.pair).add(w.s[8], w.selectors[2], w.number).with(w.pair, 1, ref(w.h.Used()))
	becomes(t, "install", w.h, c, s, s, api.OK, after)
	if _, ok := c.Get(w.triple, w.selectors[2]); ok || !slices.Equal(c.Drops(), words(w.selectors[2])) {
		t.Error("what was installed is not dropped")
	}
	c.Drop(one)
	w.install(t, w.thing, one, withPrim(23, 1))
	c.Drops()
	from = w.sender(t, api.OpSend, one, w.pair, w.selectors[2])
	s = interp.State{Active: from}
	after = pictureOf(w.h).sent(w, from, 1, w.pair).with(fetch(t, w.h, w.pair, 1), 0, w.s[0], w.s[0])
	becomes(t, "remove", w.h, c, s, s, api.OK, after)
	if !slices.Equal(c.Drops(), words(w.selectors[2])) {
		t.Error("what was removed is not dropped")
	}
	w.fit(t, "primitives")
}

func TestSendToBlock(t *testing.T) {
	w := newWorld(t, 16384)
	for args := range 5 {
		m := w.install(t, w.thing, w.selectors[0], withPrim(20, args))
		for takes := range 5 {
			l := words(num(1), w.list, w.s[0], num(4))[:args]
			body := w.blockMethod(t, takes)
			block := put(t, w.h, w.s[6], w.context, body, w.filled)
			from := w.sender(t, api.OpSend, w.selectors[0], block, l...)
			what := fmt.Sprintf("%d arguments to a block that takes %d", args, takes)
			if args == takes {
				sendsTo(t, what, w, nil, from, body, w.filled, block, args, l...)
			} else {
				sendsTo(t, what, w, nil, from, m, block, w.s[0], args, l...)
			}
		}
	}
	// The context in which it was made does not count, nor does the class of the method.
	m := w.install(t, w.thing, w.selectors[0], withPrim(20, 0))
	w.install(t, w.s[8], w.selectors[0], withPrim(20, 0))
	body := w.blockMethod(t, 0)
	block := put(t, w.h, w.s[6], num(4), body, num(6))
	sendsTo(t, "made nowhere", w, nil, w.sender(t, api.OpSend, w.selectors[0], block), body, num(6), block, 0)
	w.fit(t, "blocks")
	reclass(t, w.h, body, w.s[8])
	sendsTo(t, "an array", w, nil, w.sender(t, api.OpSend, w.selectors[0], block), body, num(6), block, 0)
	for _, no := range words(w.list, num(4), w.s[0], w.context) {
		store(t, w.h, block, 1, no)
		sendsTo(t, "no method", w, nil, w.sender(t, api.OpSend, w.selectors[0], block), m, block, w.s[0], 0)
	}
	// An object below ClassBlock is none.
	below := put(t, w.h, w.s[7], w.s[6], w.s[0], num(3), num(0))
	store(t, w.h, block, 1, body)
	reclass(t, w.h, block, below)
	sendsTo(t, "below ClassBlock", w, nil, w.sender(t, api.OpSend, w.selectors[0], block), m, block, w.s[0], 0)
}

func TestSendRoom(t *testing.T) {
	one := func(w *world) api.Word { return w.selectors[0] }
	for k, c := range []struct {
		need    int
		op, n   int
		args    int
		prepare func(*world) (receiver api.Word, args []api.Word)
	}{
		{13, api.OpSend, 0, 3, func(w *world) (api.Word, []api.Word) { return w.instance, words(num(1), num(2), num(3)) }},
		{13, api.OpSend, 9, 3, func(w *world) (api.Word, []api.Word) { return w.instance, words(num(1), num(2), num(3)) }},
		{4, api.OpSend, 7, 0, func(w *world) (api.Word, []api.Word) { return w.bag, nil }},
		{6, api.OpSend, 8, 1, func(w *world) (api.Word, []api.Word) { return w.bag, words(num(2)) }},
		{11, api.OpSend, 20, 1, func(w *world) (api.Word, []api.Word) {
			store(t, w.h, w.block, 1, w.blockMethod(t, 1))
			return w.block, words(num(2))
		}},
		{5, api.OpSend, 22, 2, func(w *world) (api.Word, []api.Word) { return w.pair, words(w.selectors[1], w.number) }},
		{13, api.OpSuper, 0, 3, func(w *world) (api.Word, []api.Word) { return w.instance, words(num(1), num(2), num(3)) }},
	} {
		for room := range 20 {
			if room == 1 || room == 2 {
				continue
			}
			w := newWorld(t, 4096)
			w.install(t, w.thing, one(w), withPrim(c.n, c.args))
			receiver, l := c.prepare(w)
			from := w.sender(t, c.op, one(w), receiver, l...)
			if c.op == api.OpSuper {
				if e := class.Install(w.h, w.triple, w.selectors[5], fetch(t, w.h, from, 3)); e != api.OK {
					t.Fatalf("Install = error %d", e)
				}
			}
			w.fillUp(t, room)
			s, what := interp.State{Active: from, Out: []int{6}}, fmt.Sprintf("call %d, room for %d words", k, room)
			if room < c.need {
				hasNoRoom(t, what, w.h, lines(t, 8), s)
				continue
			}
			used := w.h.Used()
			if next, e := interp.Step(w.h, nil, s); e != api.OK || next.E != api.OK || w.h.Used() != used+c.need {
				t.Errorf("%s: %v, error %d, and %d words more", what, next, e, w.h.Used()-used)
			}
		}
	}
	// What stops is told ahead of that.
	w := newWorld(t, 4096)
	w.install(t, w.thing, one(w), withPrim(0, 1))
	x, y := w.sender(t, api.OpSend, one(w), w.instance), w.sender(t, api.OpSend, w.selectors[1], w.instance)
	w.fillUp(t, 0)
	stops(t, "no room and another number of arguments", w.h, nil, interp.State{Active: x}, api.ErrArg)
	stops(t, "no room and not understood", w.h, nil, interp.State{Active: y}, api.ErrLookup)
}

// P10.6: Super

func TestSuper(t *testing.T) {
	for name, c := range caches(t) {
		w := newWorld(t, 8192)
		one, two := w.selectors[0], w.selectors[1]
		top := w.install(t, w.thing, one, withPrim(0, 2))
		w.install(t, w.pair, one, withPrim(0, 2))
		w.install(t, w.triple, one, withPrim(0, 2))
		from := w.sender(t, api.OpSuper, one, w.instance, num(1), num(2))
		m := fetch(t, w.h, from, 3)
		// The method is in no dictionary.
		stops(t, name, w.h, c, interp.State{Active: from}, api.ErrLookup)
		for _, k := range words(w.pair, w.triple, w.bag, w.s[3]) {
			class.Install(w.h, k, two, m)
		}
		class.Install(w.h, w.s[8], w.selectors[2], m)
		// That of the receiver's class is found ahead of those above it.
		middle, _ := class.Lookup(w.h, w.pair, one)
		sendsTo(t, name, w, c, from, middle, w.instance, w.s[0], 2, num(1), num(2))
		if e := class.Remove(w.h, w.triple, two); e != api.OK {
			t.Fatalf("Remove = error %d", e)
		}
		for _, receiver := range words(w.instance, num(5), w.list, w.filled) {
			from = w.sender(t, api.OpSuper, one, receiver, num(1), num(2))
			store(t, w.h, from, 3, m)
			sendsTo(t, name, w, c, from, top, receiver, w.s[0], 2, num(1), num(2))
		}
		// It is in no dictionary of these.
		for _, receiver := range words(w.thing, w.context, w.selectors[3], w.s[0]) {
			from = w.sender(t, api.OpSuper, one, receiver, num(1), num(2))
			store(t, w.h, from, 3, m)
			stops(t, name, w.h, c, interp.State{Active: from}, api.ErrLookup)
		}
		w.fit(t, name)
	}
}

func TestSuperOfWhatIsNotUnderstood(t *testing.T) {
	for name, c := range caches(t) {
		w := newWorld(t, 8192)
		one, two := w.selectors[0], w.selectors[1]
		from := w.sender(t, api.OpSuper, one, w.instance, num(1), num(2))
		m := fetch(t, w.h, from, 3)
		class.Install(w.h, w.pair, two, m)
		w.install(t, w.pair, one, withPrim(0, 2))
		w.install(t, w.triple, one, withPrim(0, 2))
		stops(t, name, w.h, c, interp.State{Active: from}, api.ErrLookup)
		// SelUnknown is looked up from the class of the receiver, not from above.
		u := w.install(t, w.triple, w.s[9], withPrim(0, 1))
		w.install(t, w.thing, w.s[9], withPrim(0, 1))
		sendsTo(t, name, w, c, from, u, w.instance, w.s[0], 2, one)
		// Above thing there is only Nil.
		class.Remove(w.h, w.pair, two)
		class.Install(w.h, w.thing, two, m)
		from = w.sender(t, api.OpSuper, one, w.instance, num(1), num(2))
		store(t, w.h, from, 3, m)
		sendsTo(t, name, w, c, from, u, w.instance, w.s[0], 2, one)
		// Where the method is in no dictionary, SelUnknown is not asked.
		class.Remove(w.h, w.thing, two)
		from = w.sender(t, api.OpSuper, one, w.instance, num(1), num(2))
		stops(t, name, w.h, c, interp.State{Active: from}, api.ErrLookup)
	}
}

// The lookup of Super asks no cache and tells none, that of SelUnknown does.
func TestSuperAndTheCache(t *testing.T) {
	w := newWorld(t, 8192)
	c := lines(t, 256)
	one, two := w.selectors[0], w.selectors[1]
	top := w.install(t, w.thing, one, withPrim(0, 0))
	for _, k := range words(w.thing, w.pair, w.triple) {
		c.Put(k, one, w.number)
	}
	from := w.sender(t, api.OpSuper, one, w.instance)
	class.Install(w.h, w.pair, two, fetch(t, w.h, from, 3))
	sendsTo(t, "Super", w, c, from, top, w.instance, w.s[0], 0)
	if x, y := c.Counts(); x != 0 || y != 0 {
		t.Errorf("Counts = %d, %d", x, y)
	}
	u := w.method(t, withPrim(0, 1))
	c.Put(w.triple, w.s[9], u)
	from = w.sender(t, api.OpSuper, w.selectors[5], w.instance)
	class.Install(w.h, w.pair, two, fetch(t, w.h, from, 3))
	sendsTo(t, "SelUnknown", w, c, from, u, w.instance, w.s[0], 0, w.selectors[5])
	if x, y := c.Counts(); x != 1 || y != 0 {
		t.Errorf("Counts = %d, %d", x, y)
	}
}

// The primitive of what Super finds is done, too, and other numbers of arguments stop.
func TestSuperToPrimitive(t *testing.T) {
	w := newWorld(t, 8192)
	w.install(t, w.thing, w.selectors[0], withPrim(9, 1))
	from := w.sender(t, api.OpSuper, w.selectors[0], w.instance, num(2))
	class.Install(w.h, w.pair, w.selectors[1], fetch(t, w.h, from, 3))
	s := interp.State{Active: from}
	becomes(t, "a primitive", w.h, nil, s, s, api.OK, pictureOf(w.h).sent(w, from, 1, num(11)))
	from = w.sender(t, api.OpSuper, w.selectors[0], w.instance, num(2), num(2))
	class.Install(w.h, w.pair, w.selectors[1], fetch(t, w.h, from, 3))
	stops(t, "another number of arguments", w.h, nil, interp.State{Active: from}, api.ErrArg)
}

// In a block, the method is that of the home, which may have returned.
func TestSuperInBlock(t *testing.T) {
	for outs := range 4 {
		w := newWorld(t, 8192)
		one, two := w.selectors[0], w.selectors[1]
		top := w.install(t, w.thing, one, withPrim(0, 0))
		home := w.install(t, w.pair, two, withPrim(0, 0))
		w.install(t, w.triple, one, withPrim(0, 0))
		outer := w.begin(t, home, w.instance)
		store(t, w.h, outer, 1, w.s[0])
		for range outs {
			block := put(t, w.h, w.s[6], outer, w.number, w.instance)
			outer = w.begin(t, w.number, w.instance)
			store(t, w.h, outer, 5, block)
		}
		from := w.sender(t, api.OpSuper, one, w.instance)
		store(t, w.h, from, 5, put(t, w.h, w.s[6], outer, w.number, w.instance))
		sendsTo(t, "Super in a block", w, nil, from, top, w.instance, w.s[0], 0)
		w.fit(t, "Super in a block")
	}
}

func TestSuperWithoutHome(t *testing.T) {
	for _, c := range brokenChains() {
		w := newWorld(t, 32768)
		w.install(t, w.thing, w.selectors[0], withPrim(0, 0))
		w.install(t, w.thing, w.s[9], withPrim(0, 1))
		from := w.sender(t, api.OpSuper, w.selectors[0], w.instance)
		home := w.install(t, w.pair, w.selectors[1], withPrim(0, 0))
		c.build(t, w, from, w.begin(t, home, w.instance))
		if c.whole {
			top, _ := class.Lookup(w.h, w.thing, w.selectors[0])
			sendsTo(t, c.what, w, nil, from, top, w.instance, w.s[0], 0)
		} else {
			stops(t, c.what, w.h, nil, interp.State{Active: from}, api.ErrLookup)
		}
	}
}

// Example 6 of the document: an activation goes on with the method with which it began, and the next send finds the new one.
func TestSendAfterInstall(t *testing.T) {
	for _, c := range []*cache.Cache{nil, lines(t, 1), lines(t, 64)} {
		w := newWorld(t, 8192)
		install, act, out := w.selectors[0], w.selectors[1], w.selectors[2]
		w.install(t, w.thing, install, withPrim(22, 2))
		w.install(t, w.thing, out, withPrim(21, 0))
		next := w.method(t, api.Method{Stack: 2, Lits: words(out), Code: body(in(api.OpPushInt, 2050), in(api.OpSend, 0, 0), in(api.OpReturn))})
		// It puts out 1, lets its own selector be understood by the other one, and puts out 3.
		w.install(t, w.pair, act, api.Method{Stack: 3, Lits: words(out, w.pair, act, next, install), Code: body(
			in(api.OpPushInt, 2049), in(api.OpSend, 0, 0), in(api.OpDrop),
			in(api.OpPushLit, 1), in(api.OpPushLit, 2), in(api.OpPushLit, 3), in(api.OpSend, 4, 2), in(api.OpDrop),
			in(api.OpPushInt, 2051), in(api.OpSend, 0, 0), in(api.OpReturn))})
		from := w.start(t, w.instance, api.Method{Stack: 2, Lits: words(act), Code: body(
			in(api.OpPushSelf), in(api.OpSend, 0, 0), in(api.OpDrop), in(api.OpPushSelf), in(api.OpSend, 0, 0), in(api.OpReturn))})
		s := interp.State{Active: from}
		for k := 0; k < 100 && !s.Done && s.E == api.OK; k++ {
			s = run(t, w.h, c, s, 1)
		}
		if !s.Done || s.Result != num(2) || !slices.Equal(s.Out, []int{1, 3, 2}) {
			t.Errorf("%v", s)
		}
		w.fit(t, "install")
	}
}

// Example 4 of the document: a context that is asked for its fields answers them, and its field 7, if it is changed, is the first temporary.
func TestSendToTheActiveContext(t *testing.T) {
	w := newWorld(t, 8192)
	at, put := w.selectors[0], w.selectors[1]
	w.install(t, w.thing, at, withPrim(9, 1))
	w.install(t, w.thing, put, withPrim(10, 2))
	ask := func(k int) api.Method {
		return api.Method{Temps: 1, Stack: 3, Lits: words(at), Code: body(in(api.OpPushInt, 2048), in(api.OpPushContext), in(api.OpPushInt, 2048+k), in(api.OpSend, 0, 1), in(api.OpReturn))}
	}
	for k, want := range map[int]api.Word{2: num(3), 3: num(4), 5: w.instance, 6: w.s[0], 7: w.s[0], 8: num(0), 10: num(10)} {
		ends(t, fmt.Sprint("field ", k), w, w.start(t, w.instance, ask(k)), true, want, api.OK)
	}
	for _, k := range []int{4, 9} {
		start := w.start(t, w.instance, ask(k))
		ends(t, fmt.Sprint("field ", k), w, start, true, map[int]api.Word{4: fetch(t, w.h, start, 3), 9: start}[k], api.OK)
	}
	sender := w.start(t, num(3), api.Method{Stack: 1, Lits: words(w.selectors[2]), Code: body(in(api.OpPushSelf), in(api.OpSend, 0, 0), in(api.OpReturn))})
	w.install(t, w.thing, w.selectors[2], ask(1))
	ends(t, "the sender", w, sender, true, sender, api.OK)
	change := func(k int, v api.Word) api.Method {
		return api.Method{Temps: 1, Stack: 3, Lits: words(put, v), Code: body(
			in(api.OpPushContext), in(api.OpPushInt, 2048+k), in(api.OpPushLit, 1), in(api.OpSend, 0, 2), in(api.OpDrop), in(api.OpPushTemp, 0), in(api.OpReturn))}
	}
	ends(t, "the temporary", w, w.start(t, w.instance, change(7, num(77))), true, num(77), api.OK)
	ends(t, "the receiver", w, w.start(t, w.instance, change(5, num(77))), true, w.s[0], api.OK)
	// Where the context goes on, how many words it holds and what was popped is laid in it when the primitive is done.
	for _, k := range []int{2, 3, 8, 9, 10} {
		ends(t, fmt.Sprint("field ", k), w, w.start(t, w.instance, change(k, num(77))), true, w.s[0], api.OK)
	}
	// A method that is none can't be gone on with, nor can one be returned to who is no context.
	ends(t, "the method", w, w.start(t, w.instance, change(4, num(77))), false, 0, api.ErrResume)
	ends(t, "the sender", w, w.start(t, w.instance, change(1, num(77))), false, 0, api.ErrResume)
	// What a field held that was popped is Nil, even if the primitive has laid something else there.
	from := w.start(t, w.instance, change(9, num(77)))
	s := run(t, w.h, nil, interp.State{Active: from}, 4)
	for k := 7; k < 9; k++ {
		if v := fetch(t, w.h, from, k); k == 7 && v != num(77) || k > 7 && v != w.s[0] {
			t.Errorf("field %d is %d behind the send", k, v)
		}
	}
	if s.Active != from {
		t.Errorf("%v", s)
	}
}
