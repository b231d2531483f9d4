package prim_test

import (
	"math"
	"testing"

	"tappet/api"
)

// noIndices are words that mean no field of an object with so many that may be asked for.
func noIndices(w *world, count int) []api.Word {
	return append(noIntegers(w), num(count+1), num(count+2), num(0), num(-1), num(-2), num(-count), num(least), num(least+1), num(greatest), num(greatest-1), num(1<<32+1))
}

// noIntegers are even words, some of which lead to objects.
func noIntegers(w *world) []api.Word {
	return args(0, 2, 4, w.instance, w.s[0], w.pair, ref(w.h.Used()), ref(w.instance2()), 1<<63, 1<<63+4, math.MaxUint64-1)
}

// instance2 is the number of the second word of an object.
func (w *world) instance2() int { return int(w.instance/2) + 1 }

// notValid are even words that lead to no object, but for the word 0, which is valid.
func notValid(w *world) []api.Word {
	return args(2*ref(w.h.Words()), ref(w.h.Words()), ref(w.h.Used()), ref(w.instance2()), w.root+2, 1<<63, 1<<63+2, math.MaxUint64-1, 1<<32+w.root)
}

// indexed is an object whose class permits more fields: how many are named, and how many are behind these.
type indexed struct {
	of           api.Word
	named, count int
}

func (w *world) indexed() []indexed {
	return []indexed{
		{w.bare, 1, 0}, {w.filled, 1, 3}, {w.narrow, 64, 0}, {w.wider, 64, 3}, {w.array, 0, 0}, {w.list, 0, 3},
		{w.lower, 4, 1}, {w.context, 6, 0}, {w.occupied, 6, 2}, {w.dict, 0, 4},
	}
}

// P9.1: 4, how many indexed fields there are

func TestCountIndexed(t *testing.T) {
	w := newWorld(t, 1024)
	for _, c := range w.indexed() {
		answers(t, w.h, 4, c.of, nil, num(c.count))
	}
	answers(t, w.h, 4, w.root, nil, num(20))
	// Not an object; protected; of a class that does not permit more.
	for _, x := range append(noObjects(w.h), w.protected()...) {
		fails(t, w.h, 4, x)
	}
	for _, x := range args(w.instance, w.block, w.s[0], w.s[1], w.selector, put(t, w.h, w.full, fill(num(0), 64)...)) {
		fails(t, w.h, 4, x)
	}
}

// Objects with other numbers of fields than their class says, which no runnable heap has.
func TestObjectsWithFewerFields(t *testing.T) {
	w := newWorld(t, 2048)
	for _, size := range []int{0, 1, 3, 63, 64, 65, 512} {
		x := put(t, w.h, w.wide, fill(num(7), size)...)
		answers(t, w.h, 4, x, nil, num(size-64))
		if size > 64 {
			answers(t, w.h, 5, x, args(num(size-64)), num(7))
			stores(t, w.h, 6, x, size-64, num(8), size-1)
			stores(t, w.h, 6, x, 1, num(9), 64)
		}
		for _, k := range noIndices(w, max(size-64, 0)) {
			fails(t, w.h, 5, x, k)
			fails(t, w.h, 6, x, k, num(0))
		}
		for k := range size {
			stores(t, w.h, 10, x, k+1, num(k), k)
			answers(t, w.h, 9, x, args(num(k+1)), num(k))
		}
		for _, k := range noIndices(w, size) {
			fails(t, w.h, 9, x, k)
			fails(t, w.h, 10, x, k, num(0))
		}
	}
	for _, c := range args(w.s[4], w.bag) {
		x := put(t, w.h, c)
		for k := -7; k < 3; k++ {
			fails(t, w.h, 5, x, num(k))
			fails(t, w.h, 6, x, num(k), num(0))
		}
	}
	// More fields than the class permits.
	x := put(t, w.h, w.pair, num(1), num(2), num(3))
	fails(t, w.h, 4, x)
	fails(t, w.h, 5, x, num(1))
	answers(t, w.h, 9, x, args(num(3)), num(3))
}

// What is no class says neither how many fields are named nor whether there may be more.
func TestObjectsOfNoClass(t *testing.T) {
	w := newWorld(t, 1024)
	like := args(w.thing, w.s[0], num(1), num(1))
	short := put(t, w.h, w.s[7], like[:3]...)
	other := put(t, w.h, w.s[8], like...)
	great := put(t, w.h, w.s[7], like[0], like[1], num(65), num(1))
	below := put(t, w.h, w.s[7], like[0], like[1], num(-1), num(1))
	many := put(t, w.h, w.s[7], like[0], like[1], num(1), num(2))
	odd := put(t, w.h, w.s[7], w.instance, like[1], num(1), num(1))
	for _, c := range args(0, num(0), num(5), w.instance, w.list, w.root, short, other, great, below, many, odd) {
		x := put(t, w.h, c, num(7), num(8))
		fails(t, w.h, 4, x)
		fails(t, w.h, 5, x, num(1))
		fails(t, w.h, 6, x, num(1), num(1))
		answers(t, w.h, 9, x, args(num(2)), num(8))
		stores(t, w.h, 10, x, 1, num(1), 0)
	}
}

// P9.1: 5, an indexed field

func TestFetchIndexed(t *testing.T) {
	w := newWorld(t, 1024)
	for _, c := range w.indexed() {
		for k := range c.count {
			want, e := w.h.Fetch(c.of, c.named+k)
			if e != api.OK {
				t.Fatalf("Fetch(%d, %d) = error %d", c.of, c.named+k, e)
			}
			answers(t, w.h, 5, c.of, args(num(k+1)), want)
		}
		for _, k := range noIndices(w, c.count) {
			fails(t, w.h, 5, c.of, k)
		}
	}
	answers(t, w.h, 5, w.root, args(num(20)), w.context)
	answers(t, w.h, 5, w.filled, args(num(1)), w.s[0])
	answers(t, w.h, 5, w.filled, args(num(3)), w.bare)
	answers(t, w.h, 5, w.occupied, args(num(2)), num(9))
	for _, x := range append(noObjects(w.h), w.protected()...) {
		fails(t, w.h, 5, x, num(1))
	}
	for _, x := range args(w.instance, w.block, w.s[0]) {
		fails(t, w.h, 5, x, num(1))
		fails(t, w.h, 5, x, num(0))
	}
}

// P9.1: 6, an indexed field is changed

func TestStoreIndexed(t *testing.T) {
	w := newWorld(t, 1024)
	for _, c := range w.indexed() {
		for k := range c.count {
			for _, v := range args(num(least), w.method, w.root, c.of, 0, num(k)) {
				stores(t, w.h, 6, c.of, k+1, v, c.named+k)
			}
			for _, v := range notValid(w) {
				fails(t, w.h, 6, c.of, num(k+1), v)
			}
		}
		for _, k := range noIndices(w, c.count) {
			fails(t, w.h, 6, c.of, k, num(0))
		}
	}
	for _, x := range append(noObjects(w.h), w.protected()...) {
		fails(t, w.h, 6, x, num(1), num(1))
	}
	for _, x := range args(w.instance, w.block, w.s[0]) {
		fails(t, w.h, 6, x, num(1), num(1))
		fails(t, w.h, 6, x, num(0), num(1))
	}
}

// The Root is an array as any other: what is stored there is a special from then on.
func TestStoreInRoot(t *testing.T) {
	w := newWorld(t, 1024)
	stores(t, w.h, 6, w.root, 2, num(7), 1)
	answers(t, w.h, 2, num(1), args(num(1)), num(7))
	stores(t, w.h, 10, w.root, 3, 0, 2)
	answers(t, w.h, 2, num(1), args(num(2)), 0)
	stores(t, w.h, 6, w.root, 20, w.root, 19)
	stores(t, w.h, 10, w.root, 4, w.pair, 3)
	answers(t, w.h, 1, num(1), nil, w.pair)
}

// P9.1: 9, a field

func TestFetchAny(t *testing.T) {
	w := newWorld(t, 1024)
	for k, x := range w.h.Objects() {
		o := w.h.Dump()[k]
		if o.Class == w.s[5] || o.Class == w.s[7] {
			continue
		}
		for i, v := range o.Fields {
			answers(t, w.h, 9, x, args(num(i+1)), v)
		}
		for _, i := range noIndices(w, len(o.Fields)) {
			fails(t, w.h, 9, x, i)
		}
	}
	answers(t, w.h, 9, w.instance, args(num(1)), num(greatest))
	answers(t, w.h, 9, w.instance, args(num(2)), num(least))
	// The sender of a context.
	answers(t, w.h, 9, w.occupied, args(num(1)), w.context)
	for _, x := range append(noObjects(w.h), w.protected()...) {
		fails(t, w.h, 9, x, num(1))
	}
}

// P9.1: 10, a field is changed

func TestStoreAny(t *testing.T) {
	w := newWorld(t, 1024)
	for _, x := range args(w.instance, w.bare, w.filled, w.narrow, w.wider, w.list, w.lower, w.context, w.occupied, w.block, w.dict) {
		size, e := w.h.Size(x)
		if e != api.OK {
			t.Fatalf("Size(%d) = error %d", x, e)
		}
		for k := range size {
			for _, v := range args(num(greatest), w.s[7], w.root, x, 0, num(k)) {
				stores(t, w.h, 10, x, k+1, v, k)
			}
			for _, v := range notValid(w) {
				fails(t, w.h, 10, x, num(k+1), v)
			}
		}
		for _, k := range noIndices(w, size) {
			fails(t, w.h, 10, x, k, num(0))
		}
	}
	for _, x := range args(w.array, w.s[0], w.selector) {
		for _, k := range append(noIndices(w, 0), num(1)) {
			fails(t, w.h, 10, x, k, num(1))
		}
	}
	for _, x := range append(noObjects(w.h), w.protected()...) {
		fails(t, w.h, 10, x, num(1), num(1))
	}
}
