package prim_test

import (
	"fmt"
	"math"
	"slices"
	"testing"

	"tappet/api"
	"tappet/class"
	"tappet/code"
	"tappet/heap"
	"tappet/prim"
)

const (
	greatest = 1<<62 - 1
	least    = -1 << 62
)

// ref and num are words, worked out from chapter 1's sentences.
func ref(at int) api.Word { return api.Word(2 * at) }
func num(n int) api.Word  { return api.Word(2*n + 1) }

// args is a list of words.
func args(l ...api.Word) []api.Word { return l }

// fill is a number of fields, each of which is the word.
func fill(v api.Word, size int) []api.Word { return slices.Repeat([]api.Word{v}, size) }

// made is a new heap.
func made(t *testing.T, words int) *heap.Heap {
	t.Helper()
	h, e := heap.New(words)
	if e != api.OK {
		t.Fatalf("New(%d) = error %d", words, e)
	}
	return h
}

// put is a new object with these fields.
func put(t *testing.T, h *heap.Heap, class api.Word, fields ...api.Word) api.Word {
	t.Helper()
	w, e := h.Alloc(class, len(fields), num(0))
	if e != api.OK {
		t.Fatalf("Alloc(%d, %d) = error %d", class, len(fields), e)
	}
	set(t, h, w, fields...)
	return w
}

// set lets an object's first fields be these.
func set(t *testing.T, h *heap.Heap, w api.Word, fields ...api.Word) {
	t.Helper()
	for k, v := range fields {
		store(t, h, w, k, v)
	}
}

// store has to be done.
func store(t *testing.T, h *heap.Heap, w api.Word, k int, v api.Word) {
	t.Helper()
	if e := h.Store(w, k, v); e != api.OK {
		t.Fatalf("Store(%d, %d, %d) = error %d", w, k, v, e)
	}
}

// reclass has to be done.
func reclass(t *testing.T, h *heap.Heap, w, class api.Word) {
	t.Helper()
	if e := h.SetClass(w, class); e != api.OK {
		t.Fatalf("SetClass(%d, %d) = error %d", w, class, e)
	}
}

// rooted has to be done.
func rooted(t *testing.T, h *heap.Heap, w api.Word) {
	t.Helper()
	if e := h.SetRoot(w); e != api.OK {
		t.Fatalf("SetRoot(%d) = error %d", w, e)
	}
}

// state is all that can be read of a heap without changing it.
type state struct {
	words, used, hashes int
	root                api.Word
	objects             []heap.Object
}

func stateOf(h *heap.Heap) state {
	return state{h.Words(), h.Used(), h.Hashes(), h.Root(), h.Dump()}
}

// same: do two heaps read the same? A list without elements may be nil or not.
func same(a, b state) bool { return difference(a, b) == "" }

// difference is what two heaps have not in common; empty: they read the same.
func difference(a, b state) string {
	if a.words != b.words || a.used != b.used || a.hashes != b.hashes || a.root != b.root || len(a.objects) != len(b.objects) {
		return fmt.Sprint(a.words, a.used, a.hashes, a.root, len(a.objects), " instead of ", b.words, b.used, b.hashes, b.root, len(b.objects))
	}
	for k, x := range a.objects {
		y := b.objects[k]
		if x.Class != y.Class || x.Hash != y.Hash || !slices.Equal(x.Fields, y.Fields) {
			return fmt.Sprint("object ", k, " is ", x, " instead of ", y)
		}
	}
	return ""
}

// runs calls a primitive, and holds its answer and what the heap is behind it against those that are wanted.
func runs(t *testing.T, h *heap.Heap, n int, receiver api.Word, args []api.Word, want api.Word, e api.Errno, after state) {
	t.Helper()
	given := slices.Clone(args)
	w, f := prim.Run(h, n, receiver, args)
	if w != want || f != e {
		t.Errorf("Run(%d, %d, %v) = %d, error %d, want %d, error %d", n, receiver, given, w, f, want, e)
	}
	if !slices.Equal(given, args) {
		t.Errorf("Run(%d, %d, %v) changed its arguments to %v", n, receiver, given, args)
	}
	if d := difference(stateOf(h), after); d != "" {
		t.Errorf("Run(%d, %d, %v) left the heap with %s", n, receiver, given, d)
	}
}

// answers is a primitive that changes nothing.
func answers(t *testing.T, h *heap.Heap, n int, receiver api.Word, args []api.Word, want api.Word) {
	t.Helper()
	runs(t, h, n, receiver, args, want, api.OK, stateOf(h))
}

// fails is one that can't be done, and changes nothing.
func fails(t *testing.T, h *heap.Heap, n int, receiver api.Word, args ...api.Word) {
	t.Helper()
	runs(t, h, n, receiver, args, 0, api.ErrFail, stateOf(h))
}

// hasNoRoom is one for whose object there is no room, and changes nothing.
func hasNoRoom(t *testing.T, h *heap.Heap, n int, receiver api.Word, args ...api.Word) {
	t.Helper()
	runs(t, h, n, receiver, args, 0, api.ErrMemory, stateOf(h))
}

// hashes is primitive 3 of an object that had this hash, or none: then it is the next one, and is kept.
func hashes(t *testing.T, h *heap.Heap, w api.Word, want int) {
	t.Helper()
	after := stateOf(h)
	after.objects[slices.Index(h.Objects(), w)].Hash = want
	after.hashes = max(after.hashes, want)
	runs(t, h, 3, w, nil, num(want), api.OK, after)
}

// stores is a primitive that lets field k of the receiver be its second argument.
func stores(t *testing.T, h *heap.Heap, n int, receiver api.Word, index int, v api.Word, k int) {
	t.Helper()
	after := stateOf(h)
	after.objects[slices.Index(h.Objects(), receiver)].Fields[k] = v
	runs(t, h, n, receiver, args(num(index), v), v, api.OK, after)
}

// creates is a primitive that makes an instance with so many fields, all Nil.
func creates(t *testing.T, h *heap.Heap, n int, receiver api.Word, args []api.Word, size int) {
	t.Helper()
	after := stateOf(h)
	after.objects = append(after.objects, heap.Object{Class: receiver, Fields: fill(class.Special(h, api.Nil), size)})
	after.used += 3 + size
	runs(t, h, n, receiver, args, ref(h.Used()), api.OK, after)
}

// world is a runnable heap in which each kind of object is.
type world struct {
	h    *heap.Heap
	root api.Word
	s    [20]api.Word // the specials

	// Classes: thing is above all others, pair has two fields, bag has one and may have more, full and wide have as many as there may be, and wide may have more; meta is below ClassClass, and may have more.
	thing, pair, bag, full, wide, meta api.Word

	selector, method, dict api.Word // thing understands the selector by the method

	instance          api.Word // of pair
	bare, filled      api.Word // of bag, with one field and with four
	narrow, wider     api.Word // of wide, with 64 fields and with 67
	array, list       api.Word // without fields, and with three
	lower             api.Word // of meta, so that it is no class
	context, occupied api.Word // contexts, with six fields and with eight
	block             api.Word
}

// newWorld is one in a heap of so many words.
func newWorld(t *testing.T, words int) *world {
	t.Helper()
	w := &world{h: made(t, words)}
	w.root = put(t, w.h, 0, fill(num(0), 20)...)
	rooted(t, w.h, w.root)
	for k := range 19 {
		size := 0
		if k >= 3 && k <= 8 {
			size = 4
		}
		w.s[k] = put(t, w.h, 0, fill(num(0), size)...)
	}
	w.s[19] = w.s[0]
	set(t, w.h, w.root, w.s[:]...)
	reclass(t, w.h, w.root, w.s[8])
	w.classes(t)
	w.instances(t)
	if e := class.Fit(w.h); e != api.OK {
		t.Fatalf("Fit = error %d", e)
	}
	return w
}

// classes lays those of the world, and what thing understands.
func (w *world) classes(t *testing.T) {
	t.Helper()
	none := w.s[0]
	w.thing = put(t, w.h, w.s[7], none, none, num(0), num(0))
	for k, says := range [][2]int{{0, 0}, {6, 1}, {5, 1}, {3, 0}, {4, 0}, {0, 1}} {
		reclass(t, w.h, w.s[3+k], w.s[7])
		set(t, w.h, w.s[3+k], w.thing, none, num(says[0]), num(says[1]))
	}
	for k, x := range w.s {
		if k < 3 || k > 8 {
			reclass(t, w.h, x, w.thing)
		}
	}
	w.pair = put(t, w.h, w.s[7], w.thing, none, num(2), num(0))
	w.bag = put(t, w.h, w.s[7], w.thing, none, num(1), num(1))
	w.full = put(t, w.h, w.s[7], w.pair, none, num(64), num(0))
	w.wide = put(t, w.h, w.s[7], w.bag, none, num(64), num(1))
	w.meta = put(t, w.h, w.s[7], w.s[7], none, num(4), num(1))
	w.selector = put(t, w.h, w.thing)
	m, e := code.Write(w.h, w.s[5], api.Method{Lits: []api.Word{w.bag}, Code: []api.Instr{{Op: api.OpReturnSelf}}})
	if e != api.OK {
		t.Fatalf("Write = error %d", e)
	}
	w.method = m
	w.dict = put(t, w.h, w.s[8], none, none, w.selector, w.method)
	store(t, w.h, w.thing, 1, w.dict)
}

// instances lays objects of other kinds.
func (w *world) instances(t *testing.T) {
	t.Helper()
	none := w.s[0]
	w.instance = put(t, w.h, w.pair, num(greatest), num(least))
	w.bare = put(t, w.h, w.bag, w.instance)
	w.filled = put(t, w.h, w.bag, w.pair, none, num(7), w.bare)
	w.narrow = put(t, w.h, w.wide, fill(num(4), 64)...)
	w.wider = put(t, w.h, w.wide, append(fill(num(5), 64), num(6), num(7), w.narrow)...)
	w.array = put(t, w.h, w.s[8])
	w.list = put(t, w.h, w.s[8], w.array, num(-1), w.method)
	w.lower = put(t, w.h, w.meta, none, none, num(2), num(1), num(5))
	w.context = put(t, w.h, w.s[4], none, num(0), num(0), w.method, num(5), none)
	w.occupied = put(t, w.h, w.s[4], w.context, num(0), num(2), w.method, num(5), none, num(8), num(9))
	w.block = put(t, w.h, w.s[6], w.context, w.method, num(3))
	w.s[19] = w.context
	store(t, w.h, w.root, 19, w.context)
}

// protected are the objects whose fields are the machine's own.
func (w *world) protected() []api.Word {
	return append(slices.Clone(w.s[3:9]), w.thing, w.pair, w.bag, w.full, w.wide, w.meta, w.method)
}

// noObjects are words that lead to none, so that those of them that are even are not valid, but for the word 0.
func noObjects(h *heap.Heap) []api.Word {
	l := []api.Word{
		0, num(0), num(1), num(-1), num(greatest), num(least), math.MaxUint64 - 1,
		1 << 63, 1<<63 + 2, 1 << 32, 1<<32 + 2, ref(1<<31 - 1), ref(65535), ref(65536), ref(h.Words()), ref(h.Words() - 1), ref(h.Used()), ref(h.Used() + 1),
	}
	if refs := h.Objects(); len(refs) > 0 {
		l = append(l, refs[0]+2, refs[len(refs)-1]+2, refs[len(refs)/2]-2)
	}
	return slices.DeleteFunc(l, h.Has)
}

// noHeaps are a nil heap and one that New did not make.
func noHeaps() map[string]*heap.Heap {
	return map[string]*heap.Heap{"nil": nil, "empty": {}}
}
