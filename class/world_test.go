package class_test

import (
	"math"
	"slices"
	"testing"

	"tappet/api"
	"tappet/code"
	"tappet/heap"
)

const (
	greatest = 1<<62 - 1
	least    = -1 << 62
)

// ref and num are words, worked out from chapter 1's sentences.
func ref(at int) api.Word { return api.Word(2 * at) }
func num(n int) api.Word  { return api.Word(2*n + 1) }

// in is an instruction.
func in(op int, operands ...int) api.Instr {
	operands = append(operands, 0, 0)
	return api.Instr{Op: op, A: operands[0], B: operands[1]}
}

// made is a new heap.
func made(t *testing.T, words int) *heap.Heap {
	t.Helper()
	h, e := heap.New(words)
	if e != api.OK {
		t.Fatalf("New(%d) = error %d", words, e)
	}
	return h
}

// put is a new object with these fields.
func put(t *testing.T, h *heap.Heap, class api.Word, fields ...api.Word) api.Word {
	t.Helper()
	w, e := h.Alloc(class, len(fields), num(0))
	if e != api.OK {
		t.Fatalf("Alloc(%d, %d) = error %d", class, len(fields), e)
	}
	set(t, h, w, fields...)
	return w
}

// set lets an object's first fields be these.
func set(t *testing.T, h *heap.Heap, w api.Word, fields ...api.Word) {
	t.Helper()
	for k, v := range fields {
		store(t, h, w, k, v)
	}
}

// store has to be done.
func store(t *testing.T, h *heap.Heap, w api.Word, k int, v api.Word) {
	t.Helper()
	if e := h.Store(w, k, v); e != api.OK {
		t.Fatalf("Store(%d, %d, %d) = error %d", w, k, v, e)
	}
}

// reclass has to be done.
func reclass(t *testing.T, h *heap.Heap, w, class api.Word) {
	t.Helper()
	if e := h.SetClass(w, class); e != api.OK {
		t.Fatalf("SetClass(%d, %d) = error %d", w, class, e)
	}
}

// write is a new method's object.
func write(t *testing.T, h *heap.Heap, class api.Word, m api.Method) api.Word {
	t.Helper()
	w, e := code.Write(h, class, m)
	if e != api.OK {
		t.Fatalf("Write(%v) = error %d", m, e)
	}
	return w
}

// field is one that has to be there.
func field(t *testing.T, h *heap.Heap, w api.Word, k int) api.Word {
	t.Helper()
	v, e := h.Fetch(w, k)
	if e != api.OK {
		t.Fatalf("Fetch(%d, %d) = error %d", w, k, e)
	}
	return v
}

// fields are all of an object's.
func fields(t *testing.T, h *heap.Heap, w api.Word) []api.Word {
	t.Helper()
	size, e := h.Size(w)
	if e != api.OK {
		t.Fatalf("Size(%d) = error %d", w, e)
	}
	var l []api.Word
	for k := range size {
		l = append(l, field(t, h, w, k))
	}
	return l
}

// state is all that can be read of a heap without changing it.
type state struct {
	words, used, hashes int
	root                api.Word
	refs                []api.Word
	objects             []heap.Object
}

func stateOf(h *heap.Heap) state {
	return state{h.Words(), h.Used(), h.Hashes(), h.Root(), h.Objects(), h.Dump()}
}

// same: do two heaps read the same? A list without elements may be nil or not.
func same(a, b state) bool {
	return a.words == b.words && a.used == b.used && a.hashes == b.hashes && a.root == b.root &&
		slices.Equal(a.refs, b.refs) && slices.EqualFunc(a.objects, b.objects, func(x, y heap.Object) bool {
		return x.Class == y.Class && x.Hash == y.Hash && slices.Equal(x.Fields, y.Fields)
	})
}

// unchanged runs something that must leave the heap as it is.
func unchanged(t *testing.T, h *heap.Heap, what string, run func()) {
	t.Helper()
	before := stateOf(h)
	run()
	if after := stateOf(h); !same(before, after) {
		t.Errorf("%s changed the heap: %v before, %v after", what, before, after)
	}
}

// world is a runnable heap in which each kind of object is.
type world struct {
	h    *heap.Heap
	root api.Word
	s    [20]api.Word // the specials

	// Classes: thing is above all others, pair has two fields, triple is below it and has three, bag has one and may have more.
	thing, pair, triple, bag api.Word

	// Dictionaries: thing understands one and two, pair (between two holes) two and three, methods understand one.
	thingDict, pairDict, methodDict api.Word

	// Selectors, which nothing else is.
	one, two, three, four api.Word

	// Methods: of any class; of one with two fields; of one with three; that pushes the block.
	plain, second, third, pushing api.Word

	block    api.Word // the method of a block
	active   api.Word // a context
	instance api.Word // of pair
	filled   api.Word // of bag, with three fields
	array    api.Word // without fields
}

// newWorld is one in a heap of so many words.
func newWorld(t *testing.T, words int) *world {
	t.Helper()
	w := &world{h: made(t, words)}
	w.root = put(t, w.h, 0, slices.Repeat([]api.Word{num(0)}, 20)...)
	if e := w.h.SetRoot(w.root); e != api.OK {
		t.Fatalf("SetRoot = error %d", e)
	}
	for k := range 19 {
		size := 0
		if k >= 3 && k <= 8 {
			size = 4
		}
		w.s[k] = put(t, w.h, 0, slices.Repeat([]api.Word{num(0)}, size)...)
	}
	w.s[19] = w.s[0]
	set(t, w.h, w.root, w.s[:]...)
	reclass(t, w.h, w.root, w.s[8])
	w.classes(t)
	w.methods(t)
	w.instances(t)
	return w
}

// classes lays those of the world.
func (w *world) classes(t *testing.T) {
	t.Helper()
	none := w.s[0]
	w.thing = put(t, w.h, w.s[7], none, none, num(0), num(0))
	w.pair = put(t, w.h, w.s[7], w.thing, none, num(2), num(0))
	w.triple = put(t, w.h, w.s[7], w.pair, none, num(3), num(0))
	w.bag = put(t, w.h, w.s[7], w.thing, none, num(1), num(1))
	for k, says := range [][2]int{{0, 0}, {6, 1}, {5, 1}, {3, 0}, {4, 0}, {0, 1}} {
		reclass(t, w.h, w.s[3+k], w.s[7])
		set(t, w.h, w.s[3+k], w.thing, none, num(says[0]), num(says[1]))
	}
	for k, x := range w.s {
		if k < 3 || k > 8 {
			reclass(t, w.h, x, w.thing)
		}
	}
}

// methods lays those of the world, and what understands them.
func (w *world) methods(t *testing.T) {
	t.Helper()
	for _, selector := range []*api.Word{&w.one, &w.two, &w.three, &w.four} {
		*selector = put(t, w.h, w.thing)
	}
	w.plain = write(t, w.h, w.s[5], api.Method{Code: []api.Instr{in(18)}})
	w.second = write(t, w.h, w.s[5], api.Method{Stack: 1, Code: []api.Instr{in(4, 1), in(17)}})
	w.third = write(t, w.h, w.s[5], api.Method{Stack: 1, Code: []api.Instr{in(4, 2), in(17)}})
	w.block = write(t, w.h, w.s[5], api.Method{Stack: 1, Code: []api.Instr{in(6), in(22)}})
	w.pushing = write(t, w.h, w.s[5], api.Method{Stack: 1, Lits: []api.Word{w.block}, Code: []api.Instr{in(19), in(17)}})
	none := w.s[0]
	w.thingDict = put(t, w.h, w.s[8], w.one, w.plain, w.two, w.pushing)
	w.pairDict = put(t, w.h, w.s[8], none, none, w.two, w.second, w.three, w.plain, none, none)
	w.methodDict = put(t, w.h, w.s[8], w.one, w.plain)
	store(t, w.h, w.thing, 1, w.thingDict)
	store(t, w.h, w.pair, 1, w.pairDict)
	store(t, w.h, w.s[5], 1, w.methodDict)
}

// instances lays objects of other kinds.
func (w *world) instances(t *testing.T) {
	t.Helper()
	none := w.s[0]
	w.active = put(t, w.h, w.s[4], none, num(0), num(0), w.plain, num(5), none)
	w.s[19] = w.active
	store(t, w.h, w.root, 19, w.active)
	w.instance = put(t, w.h, w.pair, num(greatest), w.active)
	w.filled = put(t, w.h, w.bag, num(least), none, w.instance)
	w.array = put(t, w.h, w.s[8])
	put(t, w.h, w.s[6], w.active, w.block, w.instance)
}

// words are all that lead to objects of a heap, and many that don't: none, integers, the middle of objects, behind the last one, no references at all.
func words(h *heap.Heap) []api.Word {
	l := []api.Word{
		0, num(0), num(1), num(-1), num(greatest), num(least), math.MaxUint64, math.MaxUint64 - 1,
		1 << 63, 1<<63 + 2, 1 << 32, 1<<32 + 2, ref(1<<31 - 1), ref(65535), ref(65536), ref(h.Words()), ref(h.Words() - 1),
	}
	for at := range h.Used() + 4 {
		l = append(l, ref(at))
	}
	return l
}

// noObjects are those of them that lead to none.
func noObjects(h *heap.Heap) []api.Word {
	return slices.DeleteFunc(words(h), h.Has)
}

// noHeaps are a nil heap and one that New did not make.
func noHeaps() map[string]*heap.Heap {
	return map[string]*heap.Heap{"nil": nil, "empty": {}}
}
