package prim_test

import (
	"math"
	"slices"
	"testing"

	"tappet/api"
	"tappet/class"
	"tappet/heap"
	"tappet/prim"
)

// takes is how many arguments each primitive takes.
var takes = map[int]int{1: 0, 2: 1, 3: 0, 4: 0, 5: 1, 6: 2, 7: 0, 8: 1, 9: 1, 10: 2, 11: 0}

// The chapter's examples.
func TestExamples(t *testing.T) {
	w := newWorld(t, 1024)
	answers(t, w.h, 11, num(5), nil, num(-5))
	fails(t, w.h, 11, num(least))
	for _, x := range args(w.instance, num(3), w.pair) {
		answers(t, w.h, 2, x, args(x), w.s[1])
	}
	for _, x := range w.protected() {
		fails(t, w.h, 9, x, num(1))
	}
}

// P9.1: the number, and how many arguments there are

func TestNumbersOfNoPrimitive(t *testing.T) {
	w := newWorld(t, 1024)
	for _, n := range []int{math.MinInt, -1 << 32, -12, -11, -1, 0, 12, 13, 20, 21, 22, 23, 64, 1 << 32, 1<<32 + 1, math.MaxInt} {
		for _, receiver := range args(w.filled, w.bag, num(5), 0) {
			for size := range 4 {
				fails(t, w.h, n, receiver, fill(num(1), size)...)
			}
		}
	}
}

func TestNumbersOfArguments(t *testing.T) {
	w := newWorld(t, 4096)
	// Each of these receivers lets the primitive be done with the arguments 1 and 1.
	receivers := map[int]api.Word{1: w.filled, 2: w.filled, 3: w.filled, 4: w.filled, 5: w.filled, 6: w.filled, 7: w.bag, 8: w.bag, 9: w.filled, 10: w.filled, 11: num(5)}
	for n, receiver := range receivers {
		for size := range 6 {
			l := fill(num(1), size)
			if size != takes[n] {
				fails(t, w.h, n, receiver, l...)
			} else if _, e := prim.Run(w.h, n, receiver, l); e != api.OK {
				t.Errorf("Run(%d) with %d arguments = error %d", n, size, e)
			}
		}
		fails(t, w.h, n, receiver, fill(num(1), 512)...)
		for _, none := range [][]api.Word{nil, {}} {
			if _, e := prim.Run(w.h, n, receiver, none); (e == api.OK) != (takes[n] == 0) {
				t.Errorf("Run(%d) without arguments = error %d", n, e)
			}
		}
	}
}

// P9.1: 1, the class

func TestClass(t *testing.T) {
	w := newWorld(t, 1024)
	for _, n := range []int{0, 1, -1, greatest, least} {
		answers(t, w.h, 1, num(n), nil, w.s[3])
	}
	for _, c := range []struct{ of, want api.Word }{
		{w.instance, w.pair}, {w.bare, w.bag}, {w.pair, w.s[7]}, {w.s[7], w.s[7]}, {w.s[5], w.s[7]}, {w.method, w.s[5]},
		{w.root, w.s[8]}, {w.s[0], w.thing}, {w.context, w.s[4]}, {w.lower, w.meta},
	} {
		answers(t, w.h, 1, c.of, nil, c.want)
	}
	for _, x := range noObjects(w.h) {
		if x%2 == 0 {
			fails(t, w.h, 1, x)
		}
	}
	fails(t, w.h, 1, put(t, w.h, 0, num(1)))
	answers(t, w.h, 1, put(t, w.h, num(9)), nil, num(9))
}

// P9.1: 2, the same word

func TestSame(t *testing.T) {
	w := newWorld(t, 1024)
	twin := put(t, w.h, w.pair, num(greatest), num(least))
	words := append(noObjects(w.h), w.instance, twin, w.s[0], w.s[1], w.s[2], w.pair, w.method, w.root)
	for _, x := range words {
		for _, y := range words {
			want := w.s[2]
			if x == y {
				want = w.s[1]
			}
			answers(t, w.h, 2, x, args(y), want)
		}
	}
}

// P9.1: 3, the hash

func TestHash(t *testing.T) {
	w := newWorld(t, 1024)
	for k, x := range args(w.list, w.instance, w.pair, w.s[7], w.method, w.root, w.s[0], w.dict) {
		hashes(t, w.h, x, k+1)
		hashes(t, w.h, x, k+1)
	}
	hashes(t, w.h, w.list, 1)
	for _, x := range noObjects(w.h) {
		fails(t, w.h, 3, x)
	}
	if n, e := w.h.Hash(w.instance); n != 2 || e != api.OK {
		t.Errorf("Hash = %d, error %d, want 2", n, e)
	}
	hashes(t, w.h, w.wider, 9)
}

func TestLastHash(t *testing.T) {
	w := newWorld(t, 1024)
	hashes(t, w.h, w.pair, 1)
	if e := w.h.Load(w.h.Dump(), w.h.Root(), 1<<40-2); e != api.OK {
		t.Fatalf("Load = error %d", e)
	}
	hashes(t, w.h, w.instance, 1<<40-1)
	fails(t, w.h, 3, w.bare)
	hashes(t, w.h, w.instance, 1<<40-1)
	hashes(t, w.h, w.pair, 1)
	fails(t, w.h, 3, w.bare)
}

// P9.1: 11, the negated receiver

func TestNegate(t *testing.T) {
	w := newWorld(t, 1024)
	for _, n := range []int{0, 1, -1, 5, -7, 1 << 40, -1 << 61, greatest - 1, greatest, -greatest, least + 1} {
		answers(t, w.h, 11, num(n), nil, num(-n))
	}
	fails(t, w.h, 11, num(least))
	for _, x := range append(noObjects(w.h), w.instance, w.s[0], w.s[3], w.pair, w.method) {
		if x%2 == 0 {
			fails(t, w.h, 11, x)
		}
	}
}

// P1: heaps that are none, with all that a primitive may be given

func TestNoHeaps(t *testing.T) {
	words := args(0, num(0), num(1), num(5), num(-5), num(least), num(greatest), ref(1), ref(4), ref(1<<31-1), 1<<63, math.MaxUint64-1)
	for what, h := range noHeaps() {
		for n := -1; n < 14; n++ {
			for _, receiver := range words {
				for size := range 4 {
					for _, x := range words {
						l := fill(x, size)
						want, e := withoutHeap(n, receiver, l)
						if w, f := prim.Run(h, n, receiver, l); w != want || f != e {
							t.Errorf("%s: Run(%d, %d, %v) = %d, error %d, want %d, error %d", what, n, receiver, l, w, f, want, e)
						}
					}
				}
			}
		}
	}
}

// withoutHeap is what a primitive answers that has no objects: True and False are then the word 0.
func withoutHeap(n int, receiver api.Word, args []api.Word) (api.Word, api.Errno) {
	if n == 2 && len(args) == 1 {
		return 0, api.OK
	}
	if n == 11 && len(args) == 0 && receiver%2 == 1 && receiver != num(least) {
		return -receiver + 2, api.OK
	}
	return 0, api.ErrFail
}

func TestWithoutRoot(t *testing.T) {
	h := made(t, 256)
	// The special classes are all 0, so an object without a class is of each of them: of ClassClass, and so protected; c and its like are classes.
	none := put(t, h, 0, num(1), num(2))
	c := put(t, h, 0, num(0), none, num(2), num(1))
	store(t, h, c, 0, c)
	x := put(t, h, c, num(7), num(8), num(9))
	y := put(t, h, none, num(7))
	z := put(t, h, num(4), num(6))
	fails(t, h, 1, num(5))
	fails(t, h, 1, none)
	answers(t, h, 1, x, nil, c)
	answers(t, h, 2, x, args(x), 0)
	answers(t, h, 2, x, args(y), 0)
	hashes(t, h, x, 1)
	for _, n := range []int{4, 5, 6, 9, 10} {
		for _, p := range args(none, c) {
			fails(t, h, n, p, fill(num(1), takes[n])...)
		}
	}
	answers(t, h, 4, x, nil, num(1))
	answers(t, h, 5, x, args(num(1)), num(9))
	stores(t, h, 6, x, 1, y, 2)
	for _, n := range []int{4, 5, 6} {
		for _, p := range args(y, z) {
			fails(t, h, n, p, fill(num(1), takes[n])...)
		}
	}
	answers(t, h, 9, y, args(num(1)), num(7))
	answers(t, h, 9, z, args(num(1)), num(6))
	stores(t, h, 10, y, 1, x, 0)
	stores(t, h, 10, x, 3, num(3), 2)
	creates(t, h, 7, c, nil, 2)
	creates(t, h, 8, c, args(num(3)), 5)
	for _, p := range args(0, none, x, y, z, num(5)) {
		fails(t, h, 7, p)
		fails(t, h, 8, p, num(0))
	}
	answers(t, h, 11, num(5), nil, num(-5))
}

// A Root that does not have all specials, or says that one thing is many of them.
func TestRootsThatAreNotRunnable(t *testing.T) {
	w := newWorld(t, 1024)
	short := put(t, w.h, w.s[8], w.s[:7]...)
	rooted(t, w.h, short)
	// There is no ClassClass, so that nothing is a class any more, and no class is protected for being one.
	fails(t, w.h, 7, w.pair)
	fails(t, w.h, 4, w.filled)
	fails(t, w.h, 9, w.method, num(1))
	answers(t, w.h, 9, w.pair, args(num(3)), num(2))
	answers(t, w.h, 2, w.pair, args(w.pair), w.s[1])
	rooted(t, w.h, put(t, w.h, w.s[8], w.s[0], w.s[1]))
	answers(t, w.h, 2, w.pair, args(w.pair), w.s[1])
	answers(t, w.h, 2, w.pair, args(w.bag), 0)
	fails(t, w.h, 1, num(5))
	answers(t, w.h, 9, w.method, args(num(1)), num(0))
	stores(t, w.h, 10, w.method, 1, num(1), 0)
	long := put(t, w.h, w.s[8], append(slices.Clone(w.s[:]), num(1))...)
	rooted(t, w.h, long)
	answers(t, w.h, 1, num(5), nil, w.s[3])
	fails(t, w.h, 9, w.pair, num(3))
	store(t, w.h, long, 3, w.bag)
	answers(t, w.h, 1, num(5), nil, w.bag)
	fails(t, w.h, 7, w.bag)
	fails(t, w.h, 8, w.bag, num(0))
	creates(t, w.h, 7, w.s[3], nil, 0)
	store(t, w.h, long, 5, w.pair)
	fails(t, w.h, 9, w.instance, num(1))
	fails(t, w.h, 10, w.instance, num(1), num(1))
	fails(t, w.h, 7, w.pair)
	answers(t, w.h, 9, w.method, args(num(1)), num(1))
	creates(t, w.h, 8, w.s[5], args(num(1)), 6)
	// Nil is none: what has it for a superclass or a dictionary is no class, and the fields of instances are what it is.
	other := put(t, w.h, w.s[7], w.pair, w.array, num(4), num(0))
	for _, none := range args(0, num(11), other) {
		store(t, w.h, long, 0, none)
		fails(t, w.h, 7, w.full)
		creates(t, w.h, 7, other, nil, 4)
	}
	store(t, w.h, long, 3, 0)
	fails(t, w.h, 1, num(5))
}

// Several things are wrong at once, and there is no room besides: that there is none is told only where nothing else is wrong.
func TestErrorsInOrder(t *testing.T) {
	w := newWorld(t, 1024)
	fillUp(t, w, 2)
	hasNoRoom(t, w.h, 7, w.thing)
	hasNoRoom(t, w.h, 7, w.pair)
	hasNoRoom(t, w.h, 8, w.bag, num(0))
	hasNoRoom(t, w.h, 8, w.wide, num(256))
	fails(t, w.h, 7, w.pair, num(1))
	fails(t, w.h, 12, w.pair)
	for _, x := range args(w.s[3], w.s[5], w.s[7], w.instance, w.s[0], w.lower, num(5), 0, ref(w.h.Used())) {
		fails(t, w.h, 7, x)
		fails(t, w.h, 8, x, num(0))
		fails(t, w.h, 8, x, num(257))
	}
	fails(t, w.h, 8, w.bag)
	fails(t, w.h, 8, w.bag, num(-1))
	fails(t, w.h, 8, w.bag, num(257))
	fails(t, w.h, 8, w.bag, w.bag)
	fails(t, w.h, 8, w.pair, num(0))
	answers(t, w.h, 4, w.filled, nil, num(3))
	stores(t, w.h, 6, w.filled, 3, num(1), 3)
	hashes(t, w.h, w.filled, 1)
}

// fillUp lets so many words be free.
func fillUp(t *testing.T, w *world, free int) {
	t.Helper()
	for left := w.h.Words() - w.h.Used() - free; left > 0; left = w.h.Words() - w.h.Used() - free {
		size := min(left, 512)
		// What is left has to be enough for an object's head.
		if rest := left - size; rest > 0 && rest < 3 {
			size -= 3
		}
		put(t, w.h, w.s[8], fill(w.s[0], size-3)...)
	}
	if w.h.Words()-w.h.Used() != free {
		t.Fatalf("%d words are free, want %d", w.h.Words()-w.h.Used(), free)
	}
}

// What the machine is given is not kept: neither does it change with the list, nor the list with it.
func TestArgumentsAreNotKept(t *testing.T) {
	w := newWorld(t, 1024)
	l := args(num(2), w.instance)
	stores(t, w.h, 10, w.filled, 2, w.instance, 1)
	if x, e := prim.Run(w.h, 10, w.filled, l); x != w.instance || e != api.OK {
		t.Fatalf("Run = %d, error %d", x, e)
	}
	l[0], l[1] = num(3), num(4)
	answers(t, w.h, 9, w.filled, args(num(2)), w.instance)
	answers(t, w.h, 9, w.filled, args(num(3)), num(7))
}

// P9.2: a field of a class or of a method is neither read nor changed, whatever is asked.
func TestProtected(t *testing.T) {
	w := newWorld(t, 1024)
	for _, x := range w.protected() {
		size, e := w.h.Size(x)
		if e != api.OK {
			t.Fatalf("Size(%d) = error %d", x, e)
		}
		fails(t, w.h, 4, x)
		for k := -1; k < size+2; k++ {
			fails(t, w.h, 5, x, num(k))
			fails(t, w.h, 9, x, num(k))
			fails(t, w.h, 6, x, num(k), num(0))
			fails(t, w.h, 10, x, num(k), num(0))
		}
	}
	// An instance of a class below ClassClass is no class, and so is not protected.
	answers(t, w.h, 4, w.lower, nil, num(1))
	answers(t, w.h, 9, w.lower, args(num(3)), num(2))
	stores(t, w.h, 10, w.lower, 1, num(2), 0)
}

// P9.2: a runnable heap stays so, where the Root and the dictionaries are neither the receiver nor stored, nor is the word 0, which no program comes by.
func TestRunnable(t *testing.T) {
	for round := range 40 {
		w, d := newWorld(t, 2048), dice(round)
		for range 500 {
			refs := slices.DeleteFunc(w.h.Objects(), func(x api.Word) bool { return x == w.root || x == w.dict })
			any := func() api.Word {
				if d.below(3) == 0 {
					return num(d.below(12) - 2)
				}
				return d.word(refs)
			}
			n := 1 + d.below(11)
			if (n == 7 || n == 8) && d.below(4) != 0 {
				continue
			}
			receiver, l := any(), make([]api.Word, takes[n])
			for k := range l {
				l[k] = any()
			}
			before := stateOf(w.h)
			if _, e := prim.Run(w.h, n, receiver, l); e != api.OK && !same(before, stateOf(w.h)) {
				t.Fatalf("round %d: Run(%d, %d, %v) changed the heap, error %d", round, n, receiver, l, e)
			}
			if e := class.Fit(w.h); e != api.OK {
				t.Fatalf("round %d: the heap is not runnable behind Run(%d, %d, %v)", round, n, receiver, l)
			}
		}
	}
}

// A heap with nothing in it.
func TestEmptyHeap(t *testing.T) {
	h := made(t, 64)
	for n := range 13 {
		for size := range 3 {
			for _, receiver := range args(0, ref(1), num(least)) {
				want, e := withoutHeap(n, receiver, fill(num(1), size))
				runs(t, h, n, receiver, fill(num(1), size), want, e, state{words: 64, used: 1, objects: []heap.Object{}})
			}
		}
	}
}
