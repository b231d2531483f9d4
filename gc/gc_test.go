package gc_test

import (
	"math"
	"slices"
	"testing"

	"tappet/api"
	"tappet/gc"
	"tappet/heap"
)

// ref and num are words, worked out from chapter 1's sentences.
func ref(at int) api.Word { return api.Word(2 * at) }
func num(n int) api.Word  { return api.Word(2*n + 1) }

// object is one without a hash.
func object(class api.Word, fields ...api.Word) heap.Object {
	return heap.Object{Class: class, Fields: fields}
}

// state is all that can be read of a heap without changing it, less the references, which follow from the objects.
type state struct {
	words, used, hashes int
	root                api.Word
	objects             []heap.Object
}

func stateOf(h *heap.Heap) state {
	return state{h.Words(), h.Used(), h.Hashes(), h.Root(), h.Dump()}
}

func sameState(a, b state) bool {
	return a.words == b.words && a.used == b.used && a.hashes == b.hashes && a.root == b.root && sameObjects(a.objects, b.objects)
}

// sameObjects: a list without elements may be nil or not.
func sameObjects(a, b []heap.Object) bool {
	return slices.EqualFunc(a, b, func(x, y heap.Object) bool {
		return x.Class == y.Class && x.Hash == y.Hash && slices.Equal(x.Fields, y.Fields)
	})
}

// usedBy is what chapter 2 says of so many objects.
func usedBy(l []heap.Object) int {
	used := 1
	for _, o := range l {
		used += 3 + len(o.Fields)
	}
	return used
}

// held is a heap of these objects.
func held(t *testing.T, words int, l []heap.Object, root api.Word, hashes int) *heap.Heap {
	t.Helper()
	h, e := heap.New(words)
	if e != api.OK {
		t.Fatalf("New(%d) = error %d", words, e)
	}
	if e := h.Load(l, root, hashes); e != api.OK {
		t.Fatalf("Load(%v, %d, %d) = error %d", l, root, hashes, e)
	}
	return h
}

// run is a Run that has to be done.
func run(t *testing.T, h *heap.Heap, roots []api.Word) ([]api.Word, int) {
	t.Helper()
	given := slices.Clone(roots)
	l, freed, e := gc.Run(h, roots)
	if e != api.OK {
		t.Fatalf("Run(%v) = %v, %d, error %d", roots, l, freed, e)
	}
	if !slices.Equal(given, roots) {
		t.Errorf("Run has changed its list of roots: %v, was %v", roots, given)
	}
	return l, freed
}

// again runs a second time, which has to remove and to move nothing.
func again(t *testing.T, h *heap.Heap, roots []api.Word) {
	t.Helper()
	before := stateOf(h)
	l, freed := run(t, h, roots)
	if freed != 0 || !slices.Equal(l, roots) || !sameState(before, stateOf(h)) {
		t.Errorf("a second run: %v and %d freed with the roots %v, %v, was %v", l, freed, roots, stateOf(h), before)
	}
}

// collected is a heap before a run, and what it has to be afterwards.
type collected struct {
	name       string
	words      int // at least 64
	before     []heap.Object
	root       api.Word
	roots      []api.Word
	after      []heap.Object
	rootAfter  api.Word
	rootsAfter []api.Word
	hashes     int
}

func (c collected) check(t *testing.T) {
	t.Helper()
	words := max(c.words, 64)
	h := held(t, words, c.before, c.root, c.hashes)
	l, freed := run(t, h, c.roots)
	if !slices.Equal(l, c.rootsAfter) {
		t.Errorf("%s: roots %v, want %v", c.name, l, c.rootsAfter)
	}
	if want := usedBy(c.before) - usedBy(c.after); freed != want {
		t.Errorf("%s: %d freed, want %d", c.name, freed, want)
	}
	if want := (state{words, usedBy(c.after), c.hashes, c.rootAfter, c.after}); !sameState(stateOf(h), want) {
		t.Errorf("%s: %v, want %v", c.name, stateOf(h), want)
	}
	again(t, h, l)
}

// The chapter's example.

func TestExample(t *testing.T) {
	h, _ := heap.New(64)
	for range 3 {
		h.Alloc(0, 0, 0)
	}
	h.SetClass(ref(7), ref(1))
	h.SetRoot(ref(7))
	l, freed := run(t, h, nil)
	if len(l) != 0 || freed != 3 || h.Root() != 8 || h.Used() != 7 {
		t.Errorf("%v, %d freed, root %d, %d used", l, freed, h.Root(), h.Used())
	}
	if !slices.Equal(h.Objects(), []api.Word{ref(1), ref(4)}) || !sameObjects(h.Dump(), []heap.Object{object(0), object(ref(1))}) {
		t.Errorf("%v: %v", h.Objects(), h.Dump())
	}
}

// P3.1

func TestReachedByOneThingAlone(t *testing.T) {
	// Objects at the words 1, 4, 8 and 12, of which the last one is never reached.
	unused := object(ref(1), ref(4))
	for _, c := range []collected{
		{name: "by the Root", root: ref(4),
			before: []heap.Object{object(0), object(0, num(1)), object(0, num(2)), unused},
			after:  []heap.Object{object(0, num(1))}, rootAfter: ref(1)},
		{name: "by a root", roots: []api.Word{ref(8)}, rootsAfter: []api.Word{ref(1)},
			before: []heap.Object{object(0), object(0, num(1)), object(0, num(2)), unused},
			after:  []heap.Object{object(0, num(2))}},
		{name: "by the last of the roots", roots: []api.Word{num(1), 0, ref(8)}, rootsAfter: []api.Word{num(1), 0, ref(1)},
			before: []heap.Object{object(0), object(0, num(1)), object(0, num(2)), unused},
			after:  []heap.Object{object(0, num(2))}},
		{name: "by a class", root: ref(8),
			before: []heap.Object{object(0), object(0, num(1)), object(ref(4), num(2)), unused},
			after:  []heap.Object{object(0, num(1)), object(ref(1), num(2))}, rootAfter: ref(5)},
		{name: "by a field", root: ref(8),
			before: []heap.Object{object(0), object(0, num(1)), object(0, ref(4)), unused},
			after:  []heap.Object{object(0, num(1)), object(0, ref(1))}, rootAfter: ref(5)},
		{name: "by the last field", root: ref(8),
			before: []heap.Object{object(0), object(0, num(1)), object(0, num(2), 0, ref(4)), unused},
			after:  []heap.Object{object(0, num(1)), object(0, num(2), 0, ref(1))}, rootAfter: ref(5)},
		{name: "by a class of a class", root: ref(8),
			before: []heap.Object{object(0), object(ref(1), num(1)), object(ref(4), num(2)), unused},
			after:  []heap.Object{object(0), object(ref(1), num(1)), object(ref(4), num(2))}, rootAfter: ref(8)},
		{name: "by a field of a class", root: ref(8),
			before: []heap.Object{object(0), object(num(0), ref(1)), object(ref(4), num(2)), unused},
			after:  []heap.Object{object(0), object(num(0), ref(1)), object(ref(4), num(2))}, rootAfter: ref(8)},
		{name: "by a class of a field", root: ref(8),
			before: []heap.Object{object(0), object(ref(1), num(1)), object(0, ref(4)), unused},
			after:  []heap.Object{object(0), object(ref(1), num(1)), object(0, ref(4))}, rootAfter: ref(8)},
	} {
		c.check(t)
	}
}

func TestFromTheFrontAndFromBehind(t *testing.T) {
	collected{name: "references to the front and to what is behind", root: ref(7), roots: []api.Word{ref(15)},
		// at the words 1, 4, 7, 11, 15 and 19
		before: []heap.Object{object(0), object(num(4)), object(ref(4), ref(11)), object(0, ref(15)), object(0, num(5)), object(ref(7), ref(1))},
		// at the words 1, 4, 8 and 12
		after:     []heap.Object{object(num(4)), object(ref(1), ref(8)), object(0, ref(12)), object(0, num(5))},
		rootAfter: ref(4), rootsAfter: []api.Word{ref(12)},
	}.check(t)
}

func TestRings(t *testing.T) {
	self := []heap.Object{object(0, num(1)), object(ref(5), ref(5)), object(0)}
	// At the words 1, 4, 8 and 12: the class of the one is the next, and its field is the one before it.
	ring := []heap.Object{object(0), object(ref(8), ref(12)), object(ref(12), ref(4)), object(ref(4), ref(8))}
	ringAlone := []heap.Object{object(ref(5), ref(9)), object(ref(9), ref(1)), object(ref(1), ref(5))}
	for _, c := range []collected{
		{name: "an object that refers to itself, from the Root", before: self, root: ref(5), after: []heap.Object{object(ref(1), ref(1))}, rootAfter: ref(1)},
		{name: "an object that refers to itself, from a root", before: self, roots: []api.Word{ref(5)}, after: []heap.Object{object(ref(1), ref(1))}, rootsAfter: []api.Word{ref(1)}},
		{name: "an object to which only it itself refers", before: self, root: ref(1), after: self[:1], rootAfter: ref(1)},
		{name: "a ring from the Root", before: ring, root: ref(8), after: ringAlone, rootAfter: ref(5)},
		{name: "a ring from a root", before: ring, roots: []api.Word{ref(12)}, after: ringAlone, rootsAfter: []api.Word{ref(9)}},
		{name: "a ring that nothing leads to", before: ring, root: ref(1), after: ring[:1], rootAfter: ref(1)},
		{name: "an object that refers to others, not they to it", root: ref(1),
			before: []heap.Object{object(0, ref(5)), object(ref(1), ref(5)), object(ref(5), ref(1), ref(9))},
			after:  []heap.Object{object(0, ref(5)), object(ref(1), ref(5))}, rootAfter: ref(1)},
	} {
		c.check(t)
	}
}

func TestReachedOnlyThroughARing(t *testing.T) {
	collected{name: "what hangs on a ring", root: ref(4),
		// at the words 1, 4, 8, 12, 16 and 19: the second, third and fourth are a ring, and the fourth leads to the fifth by its class
		before:    []heap.Object{object(0), object(0, ref(8)), object(0, ref(12)), object(ref(16), ref(4)), object(num(-1)), object(0)},
		after:     []heap.Object{object(0, ref(5)), object(0, ref(9)), object(ref(13), ref(1)), object(num(-1))},
		rootAfter: ref(1),
	}.check(t)
}

// P3.2

func TestNoObjects(t *testing.T) {
	for _, roots := range [][]api.Word{nil, {}, {0}, {num(0), 0, num(-1)}} {
		collected{name: "a heap without objects", roots: roots, rootsAfter: roots}.check(t)
		collected{name: "a heap that had hashes", roots: roots, rootsAfter: roots, hashes: 9}.check(t)
	}
}

func TestNoneReachable(t *testing.T) {
	// The Root is 0, and so nothing is kept but for the roots.
	before := []heap.Object{object(0), object(ref(1), ref(4)), object(ref(4), ref(1), num(3))}
	for _, roots := range [][]api.Word{nil, {}, {0}, {num(1), num(4), num(-1), 0}} {
		collected{name: "none reachable", before: before, roots: roots, rootsAfter: roots}.check(t)
	}
	collected{name: "a Root of 0 and one root", before: before, roots: []api.Word{ref(4)},
		after: []heap.Object{object(0), object(ref(1), ref(4))}, rootsAfter: []api.Word{ref(4)}}.check(t)
}

func TestAllReachable(t *testing.T) {
	l := []heap.Object{object(0, ref(9)), object(ref(1), num(7)), object(ref(5), 0, ref(1))}
	collected{name: "all reachable from the Root", before: l, root: ref(9), after: l, rootAfter: ref(9)}.check(t)
	collected{name: "all reachable from a root", before: l, roots: []api.Word{ref(1)}, after: l, rootsAfter: []api.Word{ref(1)}}.check(t)
	apart := []heap.Object{object(0), object(0), object(0)}
	collected{name: "all of them roots", before: apart, root: ref(4), roots: []api.Word{ref(7), ref(1)},
		after: apart, rootAfter: ref(4), rootsAfter: []api.Word{ref(7), ref(1)}}.check(t)
}

func TestRootsOfEachKind(t *testing.T) {
	before := []heap.Object{object(0), object(0, num(1)), object(0, num(2))} // at the words 1, 4 and 8
	after := []heap.Object{object(0, num(1)), object(0, num(2))}             // at the words 1 and 5
	collected{name: "integers, 0 and roots that are named twice", before: before, root: ref(8),
		roots: []api.Word{num(4), ref(8), 0, ref(4), num(-1), ref(4), ref(8), 0, 1<<63 - 1, 1<<63 + 1},
		after: after, rootAfter: ref(5),
		rootsAfter: []api.Word{num(4), ref(5), 0, ref(1), num(-1), ref(1), ref(5), 0, 1<<63 - 1, 1<<63 + 1},
	}.check(t)
	collected{name: "the Root, named as a root too", before: before, root: ref(4), roots: []api.Word{ref(4), ref(4)},
		after: after[:1], rootAfter: ref(1), rootsAfter: []api.Word{ref(1), ref(1)}}.check(t)
}

func TestIntegersAndNoughtStay(t *testing.T) {
	// Integers whose numbers or words are close to those of references to objects that move or go.
	numbers := []api.Word{0, num(0), num(1), num(2), num(4), num(8), ref(1) + 1, ref(4) + 1, ref(8) - 1, num(-1), num(-4), 1<<63 - 1, 1<<63 + 1}
	for _, class := range numbers {
		collected{name: "integers and 0", root: ref(4),
			before:    []heap.Object{object(0), object(class, numbers...), object(0)},
			after:     []heap.Object{object(class, numbers...)},
			rootAfter: ref(1), roots: numbers, rootsAfter: numbers,
		}.check(t)
	}
}

func TestHashes(t *testing.T) {
	hashed := func(hash int, class api.Word, fields ...api.Word) heap.Object {
		return heap.Object{Class: class, Hash: hash, Fields: fields}
	}
	before := []heap.Object{hashed(5, 0), hashed(3, 0), hashed(0, ref(4)), hashed(2, ref(7)), hashed(4, 0), hashed(0, 0), hashed(1, ref(10))}
	after := []heap.Object{hashed(3, 0), hashed(0, ref(1)), hashed(2, ref(4)), hashed(1, ref(7))}
	c := collected{name: "objects with and without a hash", before: before, root: ref(19), after: after, rootAfter: ref(10), hashes: 6}
	c.check(t)
	c.hashes = 1<<40 - 1
	c.check(t)
	// What is asked for afterwards has not been given before, not even to what was removed.
	h := held(t, 64, before, ref(19), 6)
	run(t, h, nil)
	for _, want := range []struct{ at, hash int }{{4, 7}, {1, 3}, {7, 2}, {10, 1}, {4, 7}} {
		if n, e := h.Hash(ref(want.at)); n != want.hash || e != api.OK {
			t.Errorf("Hash(%d) = %d, %d, want %d", ref(want.at), n, e, want.hash)
		}
	}
	if h.Hashes() != 7 {
		t.Errorf("%d hashes", h.Hashes())
	}
}

func TestHashesOfNoneLeft(t *testing.T) {
	h, _ := heap.New(64)
	for range 3 {
		w, _ := h.Alloc(0, 0, 0)
		h.Hash(w)
	}
	if _, freed := run(t, h, nil); freed != 9 || h.Hashes() != 3 || h.Used() != 1 {
		t.Errorf("%d freed, %d hashes, %d used", freed, h.Hashes(), h.Used())
	}
	w, _ := h.Alloc(0, 0, 0)
	if n, e := h.Hash(w); n != 4 || e != api.OK {
		t.Errorf("Hash = %d, %d, want 4", n, e)
	}
}

func TestFullHeapHasRoomAfterwards(t *testing.T) {
	for _, words := range []int{64, 65, 67, 1000, 65535, 65536} {
		h, _ := heap.New(words)
		var all []api.Word
		for w, e := h.Alloc(0, 1, num(1)); e == api.OK; w, e = h.Alloc(0, 1, num(1)) {
			all = append(all, w)
		}
		if _, e := h.Alloc(0, 1, 0); e != api.ErrMemory {
			t.Fatalf("%d words are not full: %d", words, e)
		}
		// All but one: the last one, which moves furthest.
		roots := []api.Word{all[len(all)-1]}
		l, freed := run(t, h, roots)
		if !slices.Equal(l, []api.Word{ref(1)}) || freed != 4*(len(all)-1) || h.Used() != 5 || h.Words() != words {
			t.Fatalf("%d words: %v, %d freed, %d used", words, l, freed, h.Used())
		}
		for k := range len(all) - 1 {
			if w, e := h.Alloc(l[0], 1, num(k)); w != ref(5+4*k) || e != api.OK {
				t.Fatalf("%d words: Alloc = %d, %d, want %d", words, w, e, ref(5+4*k))
			}
		}
		if _, e := h.Alloc(0, 1, 0); e != api.ErrMemory {
			t.Errorf("%d words have become more: %d", words, e)
		}
	}
}

func TestFullHeapOfReachableObjects(t *testing.T) {
	// A heap in which nothing can be freed keeps all, up to its last word.
	h, _ := heap.New(65536)
	root, _ := h.Alloc(0, 512, 0)
	h.SetRoot(root)
	for k := range 127 {
		size := 512
		if k == 126 {
			size = 65536 - h.Used() - 3
		}
		w, e := h.Alloc(root, size, root)
		if e != api.OK {
			t.Fatalf("Alloc of %d = error %d", size, e)
		}
		h.Store(root, k, w)
	}
	if h.Used() != h.Words() {
		t.Fatalf("%d of %d are used", h.Used(), h.Words())
	}
	again(t, h, h.Objects())
	again(t, h, nil)
}

func TestLongChains(t *testing.T) {
	const n = 16383 // objects of one field, with which 65536 words are all but full
	for _, byClass := range []bool{false, true} {
		for _, forwards := range []bool{false, true} {
			l := make([]heap.Object, n)
			for k := range l {
				to := k - 1
				if forwards {
					to = k + 1
				}
				l[k] = object(0, num(k))
				if to < 0 || to >= n {
					continue
				}
				if byClass {
					l[k].Class = ref(1 + 4*to)
				} else {
					l[k].Fields[0] = ref(1 + 4*to)
				}
			}
			end := ref(1 + 4*(n-1))
			if forwards {
				end = ref(1)
			}
			collected{name: "a long chain", words: 65536, before: l, root: end, after: l, rootAfter: end}.check(t)
			collected{name: "a long chain without its end", words: 65536, before: l}.check(t)
		}
	}
}

func TestLargeObjects(t *testing.T) {
	// Each of the fields leads to an object of its own that moves.
	var before, after []heap.Object
	var fields, moved []api.Word
	before = append(before, object(num(3), slices.Repeat([]api.Word{0}, 512)...))
	for k := range 512 {
		before = append(before, object(0), object(num(k)))
		after = append(after, object(num(k)))
		fields = append(fields, ref(1+515+6*k+3))
		moved = append(moved, ref(1+3*k))
	}
	before = append(before, object(fields[511], fields...))
	after = append(after, object(moved[511], moved...))
	collected{name: "an object of 512 fields", words: 8192, before: before, root: ref(1 + 515 + 6*512), after: after, rootAfter: ref(1 + 3*512),
		roots: fields, rootsAfter: moved}.check(t)
}

func TestManyRoots(t *testing.T) {
	before := []heap.Object{object(0), object(0), object(0, num(6))}
	roots := slices.Repeat([]api.Word{ref(7), num(7), 0, ref(4)}, 50000)
	want := slices.Repeat([]api.Word{ref(4), num(7), 0, ref(1)}, 50000)
	collected{name: "many roots", before: before, roots: roots, after: before[1:], rootsAfter: want}.check(t)
}

// P3.2: wrong inputs

func TestNoHeap(t *testing.T) {
	for name, h := range map[string]*heap.Heap{"nil": nil, "empty": {}, "new": new(heap.Heap)} {
		for _, roots := range [][]api.Word{nil, {}, {0}, {num(1)}, {ref(1)}, {ref(2), 1 << 63}} {
			given := slices.Clone(roots)
			if l, freed, e := gc.Run(h, roots); len(l) != 0 || freed != 0 || e != api.ErrArg {
				t.Errorf("%s heap: Run(%v) = %v, %d, %d, want ErrArg", name, given, l, freed, e)
			}
			if !slices.Equal(given, roots) || !sameState(stateOf(h), state{}) {
				t.Errorf("%s heap: Run(%v) has changed something: %v, %v", name, given, roots, stateOf(h))
			}
		}
	}
}

func TestWrongRoots(t *testing.T) {
	// Objects at the words 1, 6 and 9, of which the first one is not reachable; 14 words are used.
	l := []heap.Object{object(0, num(1), num(2)), {Class: num(3), Hash: 2}, {Class: ref(6), Hash: 1, Fields: []api.Word{ref(9), 0}}}
	wrong := []api.Word{
		ref(2), ref(3), ref(4), ref(5), ref(7), ref(8), ref(10), ref(13), // in the middle of objects
		ref(14), ref(15), ref(63), ref(64), ref(65), ref(65536), // behind the last one
		1<<32 - 2, 1 << 32, 1<<32 + 2, 1<<32 + ref(6), 1 << 63, 1<<63 + ref(6), math.MaxUint64 - 1, // no references at all
	}
	for _, w := range wrong {
		for _, roots := range [][]api.Word{{w}, {w, ref(9)}, {ref(9), w}, {0, num(1), w, ref(6)}, {ref(1), ref(6), ref(9), w}, {w, w}} {
			h := held(t, 64, l, ref(9), 3)
			before, given := stateOf(h), slices.Clone(roots)
			if got, freed, e := gc.Run(h, roots); len(got) != 0 || freed != 0 || e != api.ErrArg {
				t.Errorf("Run(%v) = %v, %d, %d, want ErrArg", given, got, freed, e)
			}
			if !slices.Equal(given, roots) {
				t.Errorf("Run has changed its list of roots: %v, was %v", roots, given)
			}
			if !sameState(before, stateOf(h)) {
				t.Errorf("Run(%v) has changed the heap: %v, was %v", given, stateOf(h), before)
			}
		}
	}
}

func TestRootsOfAHeapWithoutObjects(t *testing.T) {
	for _, w := range []api.Word{ref(1), ref(2), ref(63), ref(64), 1 << 40} {
		h, _ := heap.New(64)
		if l, freed, e := gc.Run(h, []api.Word{w}); len(l) != 0 || freed != 0 || e != api.ErrArg {
			t.Errorf("Run(%d) = %v, %d, %d, want ErrArg", w, l, freed, e)
		}
	}
}

func TestRemovedObjectIsNoRoot(t *testing.T) {
	h := held(t, 64, []heap.Object{object(0), object(0)}, ref(1), 0)
	run(t, h, nil)
	if l, freed, e := gc.Run(h, []api.Word{ref(4)}); len(l) != 0 || freed != 0 || e != api.ErrArg {
		t.Errorf("Run = %v, %d, %d, want ErrArg", l, freed, e)
	}
}

// R3

func TestListsAreApart(t *testing.T) {
	h := held(t, 64, []heap.Object{object(0), object(0, num(1))}, ref(4), 0)
	row := []api.Word{ref(4), num(5), 0, num(9), num(9)}
	roots := row[:3]
	l, _ := run(t, h, roots)
	if !slices.Equal(row, []api.Word{ref(4), num(5), 0, num(9), num(9)}) {
		t.Errorf("Run has written into or behind its list of roots: %v", row)
	}
	before := stateOf(h)
	roots[1], row[4] = num(6), num(7)
	if !slices.Equal(l, []api.Word{ref(1), num(5), 0}) {
		t.Errorf("the answer shares memory with the roots: %v", l)
	}
	l[0], l[1] = num(8), 1<<50
	if roots[0] != ref(4) || roots[1] != num(6) || !sameState(before, stateOf(h)) {
		t.Errorf("a change of the answer is seen elsewhere: %v, %v", roots, stateOf(h))
	}
	// Nor where nothing moves, and the answer is as the argument.
	roots = []api.Word{ref(1), num(5)}
	l, _ = run(t, h, roots)
	l[0] = num(1)
	if roots[0] != ref(1) {
		t.Errorf("the answer is the list of roots itself")
	}
}

func TestHeapsAreApart(t *testing.T) {
	l := []heap.Object{object(0), object(ref(1), ref(1)), object(0)}
	h, g := held(t, 64, l, ref(8), 0), held(t, 64, l, ref(4), 0)
	before := stateOf(g)
	run(t, h, nil)
	if !sameState(before, stateOf(g)) {
		t.Errorf("another heap: %v, was %v", stateOf(g), before)
	}
	if _, freed := run(t, g, nil); freed != 3 {
		t.Errorf("another heap: %d freed", freed)
	}
}
