package prim_test

import (
	"testing"

	"tappet/api"
)

// P9.1: 7, an instance

func TestCreate(t *testing.T) {
	w := newWorld(t, 2048)
	for _, c := range []struct {
		of   api.Word
		size int
	}{{w.thing, 0}, {w.pair, 2}, {w.bag, 1}, {w.full, 64}, {w.wide, 64}, {w.meta, 4}, {w.s[4], 6}, {w.s[6], 3}, {w.s[8], 0}} {
		creates(t, w.h, 7, c.of, nil, c.size)
	}
	for _, x := range w.noMakers() {
		fails(t, w.h, 7, x)
	}
}

// noMakers are words of which there may be no instances: no classes, and three that are.
func (w *world) noMakers() []api.Word {
	return append(noObjects(w.h), w.s[3], w.s[5], w.s[7], w.method, w.instance, w.filled, w.list, w.lower, w.context, w.block, w.root, w.dict, w.s[0], w.s[1], w.selector)
}

// P9.1: 8, an instance with more fields

func TestCreateLarger(t *testing.T) {
	w := newWorld(t, 8192)
	more := []struct {
		of   api.Word
		size int
	}{{w.bag, 1}, {w.wide, 64}, {w.meta, 4}, {w.s[4], 6}, {w.s[8], 0}}
	for _, c := range more {
		for _, n := range []int{0, 1, 2, 255, 256} {
			creates(t, w.h, 8, c.of, args(num(n)), c.size+n)
		}
		for _, n := range append(noIntegers(w), num(-1), num(-2), num(257), num(258), num(least), num(greatest), num(1<<32), num(1<<32+1)) {
			fails(t, w.h, 8, c.of, n)
		}
	}
	for _, x := range append(w.noMakers(), w.thing, w.pair, w.full, w.s[6]) {
		for _, n := range []int{-1, 0, 1, 256, 257} {
			fails(t, w.h, 8, x, num(n))
		}
	}
}

// What is like a class but is none has no instances.
func TestCreateOfNoClass(t *testing.T) {
	w := newWorld(t, 1024)
	none := w.s[0]
	for _, x := range args(
		put(t, w.h, w.s[7], w.thing, none, num(1)),
		put(t, w.h, w.s[7], w.thing, none, num(1), num(1), num(1)),
		put(t, w.h, w.s[8], w.thing, none, num(1), num(1)),
		put(t, w.h, w.meta, w.thing, none, num(1), num(1)),
		put(t, w.h, w.s[7], w.instance, none, num(1), num(1)),
		put(t, w.h, w.s[7], w.thing, w.instance, num(1), num(1)),
		put(t, w.h, w.s[7], w.thing, none, num(65), num(1)),
		put(t, w.h, w.s[7], w.thing, none, num(-1), num(1)),
		put(t, w.h, w.s[7], w.thing, none, none, num(1)),
		put(t, w.h, w.s[7], w.thing, none, num(1), num(2)),
		put(t, w.h, w.s[7], w.thing, none, num(1), none),
	) {
		fails(t, w.h, 7, x)
		fails(t, w.h, 8, x, num(0))
		fails(t, w.h, 8, x, num(1))
	}
	good := put(t, w.h, w.s[7], w.thing, none, num(1), num(1))
	creates(t, w.h, 7, good, nil, 1)
	creates(t, w.h, 8, good, args(num(1)), 2)
}

// P9.1: room for an instance, and one word less than it takes

func TestRoom(t *testing.T) {
	for _, c := range []struct {
		n    int
		of   func(*world) api.Word
		args []api.Word
		size int
	}{
		{7, func(w *world) api.Word { return w.thing }, nil, 0},
		{7, func(w *world) api.Word { return w.pair }, nil, 2},
		{7, func(w *world) api.Word { return w.full }, nil, 64},
		{7, func(w *world) api.Word { return w.s[4] }, nil, 6},
		{8, func(w *world) api.Word { return w.s[8] }, args(num(0)), 0},
		{8, func(w *world) api.Word { return w.bag }, args(num(1)), 2},
		{8, func(w *world) api.Word { return w.wide }, args(num(256)), 320},
	} {
		w := newWorld(t, 1024)
		fillUp(t, w, 3+c.size)
		creates(t, w.h, c.n, c.of(w), c.args, c.size)
		hasNoRoom(t, w.h, c.n, c.of(w), c.args...)
		w = newWorld(t, 1024)
		fillUp(t, w, 2+c.size)
		hasNoRoom(t, w.h, c.n, c.of(w), c.args...)
	}
}

// An instance's fields are its own, and it has no hash.
func TestInstancesAreNew(t *testing.T) {
	w := newWorld(t, 1024)
	hashes(t, w.h, w.bag, 1)
	first := ref(w.h.Used())
	creates(t, w.h, 8, w.bag, args(num(2)), 3)
	second := ref(w.h.Used())
	creates(t, w.h, 8, w.bag, args(num(2)), 3)
	stores(t, w.h, 6, first, 1, num(7), 1)
	stores(t, w.h, 10, second, 1, num(8), 0)
	answers(t, w.h, 9, second, args(num(2)), w.s[0])
	answers(t, w.h, 4, second, nil, num(2))
	answers(t, w.h, 1, second, nil, w.bag)
	answers(t, w.h, 2, first, args(second), w.s[2])
	hashes(t, w.h, second, 2)
	hashes(t, w.h, first, 3)
}
