package interp_test

import (
	"fmt"
	"slices"
	"testing"

	"tappet/api"
	"tappet/cache"
	"tappet/heap"
	"tappet/interp"
	"tappet/prim"
)

// P10.3

// does is a primitive that is done.
func does(t *testing.T, what string, h *heap.Heap, c *cache.Cache, n int, receiver api.Word, args []api.Word, want api.Word, out []int, after picture) {
	t.Helper()
	given := slices.Clone(args)
	got, l, e := interp.Prim(h, c, n, receiver, args)
	if got != want || !slices.Equal(l, out) || e != api.OK {
		t.Errorf("%s: Prim(%d, %d, %v) = %d, %v, error %d, want %d, %v", what, n, receiver, args, got, l, e, want, out)
	}
	if !slices.Equal(args, given) {
		t.Errorf("%s: the arguments are %v, were %v", what, args, given)
	}
	looks(t, what, h, after)
}

// doesNot is a primitive that is an error, and changes nothing.
func doesNot(t *testing.T, what string, h *heap.Heap, c *cache.Cache, n int, receiver api.Word, args []api.Word, e api.Errno) {
	t.Helper()
	before := pictureOf(h)
	got, l, f := interp.Prim(h, c, n, receiver, args)
	if got != 0 || len(l) != 0 || f != e {
		t.Errorf("%s: Prim(%d, %d, %v) = %d, %v, error %d, want error %d", what, n, receiver, args, got, l, f, e)
	}
	looks(t, what, h, before)
	if d := c.Drops(); len(d) != 0 {
		t.Errorf("%s: %v was dropped", what, d)
	}
}

func TestPrimOutput(t *testing.T) {
	w := newWorld(t, 2048)
	c := lines(t, 8)
	for _, n := range []int{0, 1, -1, 5, greatest, least, 1 << 40} {
		does(t, "output", w.h, c, 21, num(n), nil, num(n), []int{n}, pictureOf(w.h))
		does(t, "output", w.h, nil, 21, num(n), words(), num(n), []int{n}, pictureOf(w.h))
		for size := 1; size < 5; size++ {
			doesNot(t, "output with arguments", w.h, c, 21, num(n), slices.Repeat(words(num(1)), size), api.ErrFail)
		}
	}
	for _, x := range append(noObjects(w.h), w.h.Objects()...) {
		if x%2 == 0 {
			doesNot(t, "output of no integer", w.h, c, 21, x, nil, api.ErrFail)
		}
	}
	for what, h := range noHeaps() {
		does(t, what, h, nil, 21, num(6), nil, num(6), []int{6}, pictureOf(h))
		doesNot(t, what, h, nil, 21, num(6), words(0), api.ErrFail)
		doesNot(t, what, h, nil, 21, 0, nil, api.ErrFail)
	}
}

func TestPrimInstall(t *testing.T) {
	w := newWorld(t, 2048)
	c := lines(t, 256)
	one, two, three := w.selectors[0], w.selectors[1], w.selectors[2]
	for _, k := range words(one, two) {
		for _, x := range words(w.thing, w.pair, w.triple) {
			c.Put(x, k, num(1))
		}
	}
	after := pictureOf(w.h).add(w.s[8], one, w.number).with(w.pair, 1, ref(w.h.Used()))
	does(t, "install", w.h, c, 22, w.pair, words(one, w.number), w.pair, nil, after)
	if d := c.Drops(); !slices.Equal(d, words(one)) {
		t.Errorf("dropped: %v", d)
	}
	for _, x := range words(w.thing, w.pair, w.triple) {
		_, gone := c.Get(x, one)
		_, kept := c.Get(x, two)
		if gone || !kept {
			t.Errorf("of the class %d, the cache has %v and %v", x, gone, kept)
		}
	}
	other := w.method(t, withPrim(0, 1))
	after = pictureOf(w.h).with(fetch(t, w.h, w.pair, 1), 1, other)
	does(t, "install another", w.h, c, 22, w.pair, words(one, other), w.pair, nil, after)
	does(t, "install without a cache", w.h, nil, 22, w.pair, words(one, other), w.pair, nil, after)
	c.Drops()
	third := w.method(t, api.Method{Stack: 1, Code: body(in(api.OpPushField, 2), in(api.OpReturn))})
	for what, l := range map[string][]api.Word{
		"no class": {w.list, one, other}, "an integer": {num(1), one, other}, "none": {0, one, other}, "no word": {ref(5000), one, other},
		"the selector Nil": {w.pair, w.s[0], other}, "a number as selector": {w.pair, num(3), other}, "an array as selector": {w.pair, w.list, other},
		"no method": {w.pair, two, w.list}, "Nil as method": {w.pair, two, w.s[0]}, "a method with a third field": {w.pair, two, third},
		"a block": {w.pair, two, w.blockMethod(t, 0)}, "no words": {w.pair, 0, 0},
	} {
		doesNot(t, what, w.h, c, 22, l[0], l[1:], api.ErrFail)
	}
	for size := range 6 {
		if size != 2 {
			doesNot(t, "install with other arguments", w.h, c, 22, w.pair, words(three, other, other, other, other)[:size], api.ErrFail)
		}
	}
	w.fit(t, "install")
}

func TestPrimInstallWithoutRoom(t *testing.T) {
	w := newWorld(t, 2048)
	c := lines(t, 8)
	w.fillUp(t, 4)
	doesNot(t, "no room", w.h, c, 22, w.pair, words(w.selectors[0], w.number), api.ErrMemory)
	// What may not be is told ahead of that.
	doesNot(t, "no room and no class", w.h, c, 22, w.list, words(w.selectors[0], w.number), api.ErrFail)
	doesNot(t, "no room and no method", w.h, c, 22, w.pair, words(w.selectors[0], w.list), api.ErrFail)
	v := newWorld(t, 2048)
	v.fillUp(t, 5)
	after := pictureOf(v.h).add(v.s[8], v.selectors[0], v.number).with(v.pair, 1, ref(v.h.Used()))
	does(t, "just enough room", v.h, c, 22, v.pair, words(v.selectors[0], v.number), v.pair, nil, after)
	c.Drops()
	// A dictionary as great as one may be.
	u := newWorld(t, 4096)
	var pairs []api.Word
	for range 256 {
		pairs = append(pairs, put(t, u.h, u.thing), u.number)
	}
	store(t, u.h, u.pair, 1, put(t, u.h, u.s[8], pairs...))
	u.fit(t, "a full dictionary")
	doesNot(t, "a full dictionary", u.h, c, 22, u.pair, words(u.selectors[0], u.number), api.ErrMemory)
	does(t, "a selector of it", u.h, c, 22, u.pair, words(pairs[510], u.number), u.pair, nil, pictureOf(u.h))
}

func TestPrimRemove(t *testing.T) {
	w := newWorld(t, 2048)
	c := lines(t, 256)
	one, two := w.selectors[0], w.selectors[1]
	w.install(t, w.pair, one, withPrim(0, 0))
	w.install(t, w.thing, two, withPrim(0, 0))
	c.Put(w.triple, one, num(1))
	c.Put(w.triple, two, num(1))
	for what, l := range map[string][]api.Word{
		"not understood": {w.thing, one}, "understood above": {w.pair, two}, "below": {w.triple, one}, "no class": {w.list, one}, "an integer": {num(1), one},
		"none": {0, one}, "Nil": {w.pair, w.s[0]}, "a number": {w.pair, num(1)}, "no word": {w.pair, ref(5000)},
	} {
		doesNot(t, what, w.h, c, 23, l[0], l[1:], api.ErrFail)
	}
	for size := range 6 {
		if size != 1 {
			doesNot(t, "remove with other arguments", w.h, c, 23, w.pair, slices.Repeat(words(one), size), api.ErrFail)
		}
	}
	after := pictureOf(w.h).with(fetch(t, w.h, w.pair, 1), 0, w.s[0], w.s[0])
	does(t, "remove", w.h, c, 23, w.pair, words(one), w.pair, nil, after)
	_, gone := c.Get(w.triple, one)
	_, kept := c.Get(w.triple, two)
	if d := c.Drops(); !slices.Equal(d, words(one)) || gone || !kept {
		t.Errorf("dropped: %v, the cache has %v and %v", d, gone, kept)
	}
	doesNot(t, "remove again", w.h, c, 23, w.pair, words(one), api.ErrFail)
	does(t, "remove without a cache", w.h, nil, 23, w.thing, words(two), w.thing, nil, pictureOf(w.h).with(fetch(t, w.h, w.thing, 1), 0, w.s[0], w.s[0]))
	w.fit(t, "remove")
}

// All other numbers are those of package prim, 20 among them, which it does not have.
func TestPrimOthers(t *testing.T) {
	for n := -3; n < 260; n++ {
		if n >= 21 && n <= 23 {
			continue
		}
		for k, receiver := range []func(*world) api.Word{
			func(w *world) api.Word { return w.filled }, func(w *world) api.Word { return w.bag }, func(*world) api.Word { return num(5) },
			func(w *world) api.Word { return w.block }, func(*world) api.Word { return 0 }, func(w *world) api.Word { return w.number },
		} {
			if n > 24 && n < 255 && k > 0 {
				continue
			}
			for size := range 4 {
				w, v := newWorld(t, 1024), newWorld(t, 1024)
				l := slices.Repeat(words(num(1)), size)
				x, e := prim.Run(v.h, n, receiver(v), l)
				what := fmt.Sprintf("receiver %d, %d arguments", k, size)
				if e != api.OK {
					doesNot(t, what, w.h, lines(t, 4), n, receiver(w), l, e)
				} else {
					does(t, what, w.h, lines(t, 4), n, receiver(w), l, x, nil, pictureOf(v.h))
				}
			}
		}
	}
	w := newWorld(t, 1024)
	w.fillUp(t, 3)
	doesNot(t, "no room", w.h, nil, 7, w.bag, nil, api.ErrMemory)
	doesNot(t, "no room", w.h, nil, 8, w.bag, words(num(1)), api.ErrMemory)
}

func TestPrimWithoutHeap(t *testing.T) {
	for what, h := range noHeaps() {
		for n := range 26 {
			for size := range 4 {
				for _, x := range words(0, ref(1), ref(40)) {
					if n == 2 && size == 1 {
						continue // answers the special True or False, which is the word 0
					}
					doesNot(t, what, h, nil, n, x, slices.Repeat(words(x), size), api.ErrFail)
				}
			}
		}
	}
}
