package interp_test

import (
	"fmt"
	"slices"
	"testing"

	"tappet/api"
	"tappet/cache"
	"tappet/class"
	"tappet/gc"
	"tappet/heap"
	"tappet/interp"
)

// P10.2

// comes is what a send comes to.
func comes(t *testing.T, what string, h *heap.Heap, c *cache.Cache, receiver, selector api.Word, args []api.Word, method api.Word, with []api.Word, e api.Errno) {
	t.Helper()
	before, given := pictureOf(h), slices.Clone(args)
	got, l, f := interp.Target(h, c, receiver, selector, args)
	if got != method || !slices.Equal(l, with) || f != e {
		t.Errorf("%s: Target(%d, %d, %v) = %d, %v, error %d, want %d, %v, error %d", what, receiver, selector, args, got, l, f, method, with, e)
	}
	looks(t, what, h, before)
	if len(l) > 0 {
		l[0]++
	}
	if !slices.Equal(given, args) {
		t.Errorf("%s: the arguments are %v, were %v", what, args, given)
	}
}

// caches are such as may be given: without lines, with one, with many.
func caches(t *testing.T) map[string]*cache.Cache {
	return map[string]*cache.Cache{"nil": nil, "no lines": {}, "one line": lines(t, 1), "many lines": lines(t, 256)}
}

func TestTarget(t *testing.T) {
	for name, c := range caches(t) {
		w := newWorld(t, 2048)
		one, two, three := w.selectors[0], w.selectors[1], w.selectors[2]
		m := w.install(t, w.thing, one, withPrim(0, 0))
		n := w.install(t, w.pair, one, withPrim(0, 2))
		i := w.install(t, w.s[3], two, withPrim(0, 1))
		for range 2 {
			for _, l := range [][]api.Word{nil, {}, words(num(1)), words(num(1), w.list, 0, num(2), num(3), num(4), num(5))} {
				comes(t, name, w.h, c, w.list, one, l, m, l, api.OK)
				comes(t, name, w.h, c, w.instance, one, l, n, l, api.OK)
				comes(t, name, w.h, c, num(5), one, l, m, l, api.OK)
				comes(t, name, w.h, c, num(least), two, l, i, l, api.OK)
				comes(t, name, w.h, c, w.pair, one, l, m, l, api.OK)
				comes(t, name, w.h, c, m, one, l, m, l, api.OK)
				comes(t, name, w.h, c, w.instance, two, l, 0, nil, api.ErrLookup)
				comes(t, name, w.h, c, w.instance, three, l, 0, nil, api.ErrLookup)
			}
		}
		u := w.install(t, w.thing, w.s[9], withPrim(0, 1))
		v := w.install(t, w.pair, w.s[9], withPrim(0, 1))
		for range 2 {
			comes(t, name, w.h, c, w.instance, two, words(num(1), num(2)), v, words(two), api.OK)
			comes(t, name, w.h, c, w.list, two, nil, u, words(two), api.OK)
			comes(t, name, w.h, c, num(3), three, words(num(1)), u, words(three), api.OK)
			comes(t, name, w.h, c, num(3), two, words(num(1)), i, words(num(1)), api.OK)
			comes(t, name, w.h, c, w.instance, w.s[9], words(num(1), num(2)), v, words(num(1), num(2)), api.OK)
			// What is no selector is understood by nobody.
			for _, x := range append(noObjects(w.h), w.s[0]) {
				comes(t, name, w.h, c, w.instance, x, words(num(1)), v, words(x), api.OK)
			}
		}
	}
}

func TestTargetOfNoReceiver(t *testing.T) {
	for name, c := range caches(t) {
		w := newWorld(t, 2048)
		w.install(t, w.thing, w.selectors[0], withPrim(0, 0))
		w.install(t, w.thing, w.s[9], withPrim(0, 1))
		for _, x := range noObjects(w.h) {
			if x%2 == 0 {
				comes(t, name, w.h, c, x, w.selectors[0], words(num(1)), 0, nil, api.ErrLookup)
			}
		}
	}
}

func TestTargetWithoutSpecials(t *testing.T) {
	for name, c := range caches(t) {
		for what, h := range noHeaps() {
			for _, x := range words(0, num(0), ref(1)) {
				comes(t, name+", "+what, h, c, x, x, words(num(1)), 0, nil, api.ErrLookup)
			}
		}
		h := made(t, 64)
		x := put(t, h, 0, num(1))
		comes(t, name+", no Root", h, c, x, x, words(num(1)), 0, nil, api.ErrLookup)
		comes(t, name+", no Root", h, c, num(1), x, words(num(1)), 0, nil, api.ErrLookup)
	}
}

// The lookup is by the cache, and so is that of SelUnknown.
func TestTargetAsksTheCache(t *testing.T) {
	w := newWorld(t, 2048)
	m := w.install(t, w.thing, w.selectors[0], withPrim(0, 0))
	u := w.install(t, w.thing, w.s[9], withPrim(0, 1))
	c := lines(t, 256)
	c.Put(w.triple, w.selectors[0], num(77))
	comes(t, "put", w.h, c, w.instance, w.selectors[0], nil, num(77), nil, api.OK)
	c.Put(w.triple, w.s[9], num(78))
	comes(t, "put", w.h, c, w.instance, w.selectors[1], nil, num(78), words(w.selectors[1]), api.OK)
	c.Clear()
	comes(t, "cleared", w.h, c, w.instance, w.selectors[0], nil, m, nil, api.OK)
	comes(t, "cleared", w.h, c, w.instance, w.selectors[1], nil, u, words(w.selectors[1]), api.OK)
	for _, k := range []int{0, 9} {
		if x, ok := c.Get(w.triple, append(slices.Clone(w.selectors[:1]), slices.Repeat(w.s[9:10], 9)...)[k]); !ok || x != []api.Word{m, u}[min(k, 1)] {
			t.Errorf("the cache has %d, %v", x, ok)
		}
	}
}

// P8.4, as far as Target and Prim come by it: what is installed and removed by primitives is found, whatever was remembered, and so it is when objects have moved and the cache was cleared.
func TestWhatIsRememberedDoesNotCount(t *testing.T) {
	for _, n := range []int{1, 2, 7, 256} {
		w, d, c := newWorld(t, 8192), newDice(n), lines(t, n)
		w.install(t, w.thing, w.s[9], withPrim(0, 1))
		methods := words(w.number, w.method(t, withPrim(0, 0)), w.method(t, withPrim(0, 1)))
		keep := slices.Concat(words(w.thing, w.pair, w.triple, w.s[8], w.instance, w.list), w.selectors[:4], methods)
		for k := range 3000 {
			classes, receivers, selectors, methods := keep[:4], append(keep[4:6:6], num(4), keep[0]), keep[6:10], keep[10:]
			selector := d.word(selectors)
			switch d.below(8) {
			case 0:
				interp.Prim(w.h, c, 22, d.word(classes), words(selector, d.word(methods)))
			case 1:
				interp.Prim(w.h, c, 23, d.word(classes), words(selector))
			case 2:
				if k%5 == 0 {
					put(t, w.h, 0)
					keep, _, _ = gc.Run(w.h, keep)
					c.Clear()
				}
			}
			receiver := d.word(receivers)
			args, want := words(num(1)), words(num(1))
			m, e := class.Lookup(w.h, class.Of(w.h, receiver), selector)
			if e != api.OK {
				want = words(selector)
				m, e = class.Lookup(w.h, class.Of(w.h, receiver), class.Special(w.h, api.SelUnknown))
			}
			comes(t, fmt.Sprintf("%d lines, call %d", n, k), w.h, c, receiver, selector, args, m, want, e)
		}
		if remembered, _ := c.Counts(); remembered < 100 {
			t.Errorf("%d lines remembered only %d times", n, remembered)
		}
	}
}
