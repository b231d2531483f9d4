package interp_test

import (
	"fmt"
	"math"
	"slices"
	"testing"

	"tappet/api"
	"tappet/cache"
	"tappet/class"
	"tappet/code"
	"tappet/heap"
	"tappet/interp"
)

const (
	greatest = 1<<62 - 1
	least    = -1 << 62
)

// ref and num are words, worked out from chapter 1's sentences.
func ref(at int) api.Word { return api.Word(2 * at) }
func num(n int) api.Word  { return api.Word(2*n + 1) }

// words is a list of words.
func words(l ...api.Word) []api.Word { return l }

// in is an instruction.
func in(op int, operands ...int) api.Instr {
	operands = append(operands, 0, 0)
	return api.Instr{Op: op, A: operands[0], B: operands[1]}
}

// body is the code of a method.
func body(l ...api.Instr) []api.Instr { return l }

// made is a new heap.
func made(t *testing.T, size int) *heap.Heap {
	t.Helper()
	h, e := heap.New(size)
	if e != api.OK {
		t.Fatalf("New(%d) = error %d", size, e)
	}
	return h
}

// lines is a new cache.
func lines(t *testing.T, n int) *cache.Cache {
	t.Helper()
	c, e := cache.New(n)
	if e != api.OK {
		t.Fatalf("New(%d) = error %d", n, e)
	}
	return c
}

// put is a new object with these fields.
func put(t *testing.T, h *heap.Heap, class api.Word, fields ...api.Word) api.Word {
	t.Helper()
	w, e := h.Alloc(class, len(fields), num(0))
	if e != api.OK {
		t.Fatalf("Alloc(%d, %d) = error %d", class, len(fields), e)
	}
	set(t, h, w, fields...)
	return w
}

// set lets an object's first fields be these.
func set(t *testing.T, h *heap.Heap, w api.Word, fields ...api.Word) {
	t.Helper()
	for k, v := range fields {
		store(t, h, w, k, v)
	}
}

// store has to be done.
func store(t *testing.T, h *heap.Heap, w api.Word, k int, v api.Word) {
	t.Helper()
	if e := h.Store(w, k, v); e != api.OK {
		t.Fatalf("Store(%d, %d, %d) = error %d", w, k, v, e)
	}
}

// reclass has to be done.
func reclass(t *testing.T, h *heap.Heap, w, class api.Word) {
	t.Helper()
	if e := h.SetClass(w, class); e != api.OK {
		t.Fatalf("SetClass(%d, %d) = error %d", w, class, e)
	}
}

// fetch is a field that has to be there.
func fetch(t *testing.T, h *heap.Heap, w api.Word, k int) api.Word {
	t.Helper()
	v, e := h.Fetch(w, k)
	if e != api.OK {
		t.Fatalf("Fetch(%d, %d) = error %d", w, k, e)
	}
	return v
}

// picture is all that can be read of a heap without changing it.
type picture struct {
	words, used, hashes int
	root                api.Word
	refs                []api.Word
	objects             []heap.Object
}

func pictureOf(h *heap.Heap) picture {
	return picture{h.Words(), h.Used(), h.Hashes(), h.Root(), h.Objects(), h.Dump()}
}

// with is the picture with other words in an object, from field k on.
func (p picture) with(w api.Word, k int, l ...api.Word) picture {
	at := slices.Index(p.refs, w)
	p.objects = slices.Clone(p.objects)
	fields := slices.Clone(p.objects[at].Fields)
	copy(fields[k:], l)
	p.objects[at].Fields = fields
	return p
}

// add is the picture with one more object.
func (p picture) add(class api.Word, l ...api.Word) picture {
	p.objects = append(slices.Clone(p.objects), heap.Object{Class: class, Fields: l})
	p.refs = append(slices.Clone(p.refs), ref(p.used))
	p.used += 3 + len(l)
	return p
}

// difference is what two pictures have not in common; empty: they are the same.
func difference(a, b picture) string {
	if a.words != b.words || a.used != b.used || a.hashes != b.hashes || a.root != b.root || len(a.objects) != len(b.objects) {
		return fmt.Sprint(a.words, a.used, a.hashes, a.root, len(a.objects), " instead of ", b.words, b.used, b.hashes, b.root, len(b.objects))
	}
	for k, x := range a.objects {
		y := b.objects[k]
		if x.Class != y.Class || x.Hash != y.Hash || !slices.Equal(x.Fields, y.Fields) {
			return fmt.Sprint("object ", a.refs[k], " is ", x, " instead of ", y)
		}
	}
	return ""
}

// looks holds a heap against a picture.
func looks(t *testing.T, what string, h *heap.Heap, want picture) {
	t.Helper()
	if d := difference(pictureOf(h), want); d != "" {
		t.Errorf("%s: the heap has %s", what, d)
	}
}

// same: are two states the same? A list without elements may be nil or not.
func same(a, b interp.State) bool {
	return a.Active == b.Active && slices.Equal(a.Out, b.Out) && a.Done == b.Done && a.Result == b.Result && a.E == b.E
}

// becomes does a step, and holds what comes of it against what is wanted. The given list is neither changed nor handed out.
func becomes(t *testing.T, what string, h *heap.Heap, c *cache.Cache, s, want interp.State, e api.Errno, after picture) {
	t.Helper()
	given := slices.Clone(s.Out)
	got, f := interp.Step(h, c, s)
	if !same(got, want) || f != e {
		t.Errorf("%s: Step = %v, error %d, want %v, error %d", what, got, f, want, e)
	}
	looks(t, what, h, after)
	if len(got.Out) > 0 {
		got.Out[0]++
	}
	if !slices.Equal(given, s.Out) {
		t.Errorf("%s: the list that was given is %v, was %v", what, s.Out, given)
	}
}

// stops does a step that stops with an error, and changes nothing.
func stops(t *testing.T, what string, h *heap.Heap, c *cache.Cache, s interp.State, e api.Errno) {
	t.Helper()
	want := s
	want.E = e
	becomes(t, what, h, c, s, want, api.OK, pictureOf(h))
}

// hasNoRoom does a step for which there is no room, and that changes nothing.
func hasNoRoom(t *testing.T, what string, h *heap.Heap, c *cache.Cache, s interp.State) {
	t.Helper()
	becomes(t, what, h, c, s, s, api.ErrMemory, pictureOf(h))
}

// run does so many steps, none of which may be an error.
func run(t *testing.T, h *heap.Heap, c *cache.Cache, s interp.State, steps int) interp.State {
	t.Helper()
	for range steps {
		next, e := interp.Step(h, c, s)
		if e != api.OK {
			t.Fatalf("Step = error %d", e)
		}
		s = next
	}
	return s
}

// ends runs until the state is done or stopped, and holds it against what is wanted.
func ends(t *testing.T, what string, w *world, start api.Word, done bool, result api.Word, e api.Errno, out ...int) interp.State {
	t.Helper()
	c := lines(t, 16)
	s := interp.State{Active: start}
	for k := 0; k < 2000 && !s.Done && s.E == api.OK; k++ {
		s = run(t, w.h, c, s, 1)
	}
	if s.Done != done || s.Result != result || s.E != e || !slices.Equal(s.Out, out) {
		t.Errorf("%s: %v, want %v, %d, error %d, %v", what, s, done, result, e, out)
	}
	w.fit(t, what)
	return s
}

// world is a runnable heap.
type world struct {
	h    *heap.Heap
	root api.Word
	s    [20]api.Word // the specials

	// Classes: thing is above all others, pair has two fields, triple is below it and has three, bag has one and may have more.
	thing, pair, triple, bag api.Word

	selectors []api.Word // which nothing understands
	instance  api.Word   // of triple
	filled    api.Word   // of bag, with three fields
	list      api.Word   // an array with two
	number    api.Word   // a method that answers 7, which no class has
	context   api.Word   // of it
	block     api.Word   // made in the context, answers 7
}

// newWorld is one in a heap of so many words.
func newWorld(t *testing.T, size int) *world {
	t.Helper()
	w := &world{h: made(t, size)}
	w.root = put(t, w.h, 0, slices.Repeat(words(num(0)), 20)...)
	if e := w.h.SetRoot(w.root); e != api.OK {
		t.Fatalf("SetRoot = error %d", e)
	}
	for k := range 19 {
		size := 0
		if k >= 3 && k <= 8 {
			size = 4
		}
		w.s[k] = put(t, w.h, 0, slices.Repeat(words(num(0)), size)...)
	}
	w.s[19] = w.s[0]
	set(t, w.h, w.root, w.s[:]...)
	reclass(t, w.h, w.root, w.s[8])
	w.classes(t)
	w.instances(t)
	w.fit(t, "a new world")
	return w
}

// classes lays those of the world.
func (w *world) classes(t *testing.T) {
	t.Helper()
	none := w.s[0]
	w.thing = put(t, w.h, w.s[7], none, none, num(0), num(0))
	w.pair = put(t, w.h, w.s[7], w.thing, none, num(2), num(0))
	w.triple = put(t, w.h, w.s[7], w.pair, none, num(3), num(0))
	w.bag = put(t, w.h, w.s[7], w.thing, none, num(1), num(1))
	for k, says := range [][2]int{{0, 0}, {6, 1}, {5, 1}, {3, 0}, {4, 0}, {0, 1}} {
		reclass(t, w.h, w.s[3+k], w.s[7])
		set(t, w.h, w.s[3+k], w.thing, none, num(says[0]), num(says[1]))
	}
	for k, x := range w.s {
		if k < 3 || k > 8 {
			reclass(t, w.h, x, w.thing)
		}
	}
}

// instances lays objects of other kinds.
func (w *world) instances(t *testing.T) {
	t.Helper()
	for range 8 {
		w.selectors = append(w.selectors, put(t, w.h, w.thing))
	}
	w.instance = put(t, w.h, w.triple, num(10), num(11), num(12))
	w.filled = put(t, w.h, w.bag, num(20), num(21), w.instance)
	w.list = put(t, w.h, w.s[8], num(30), w.filled)
	w.number = w.method(t, api.Method{Stack: 1, Code: body(in(api.OpPushInt, 2055), in(api.OpReturn))})
	w.context = w.begin(t, w.number, w.instance)
	w.block = put(t, w.h, w.s[6], w.context, w.blockMethod(t, 0), w.instance)
}

// blockMethod is a block's that takes so many arguments and answers 7.
func (w *world) blockMethod(t *testing.T, args int) api.Word {
	t.Helper()
	return w.method(t, api.Method{Args: args, Temps: args, Stack: 1, Code: body(in(api.OpPushInt, 2055), in(api.OpBlockReturn))})
}

// fit: the heap has to be runnable.
func (w *world) fit(t *testing.T, what string) {
	t.Helper()
	if e := class.Fit(w.h); e != api.OK {
		t.Errorf("%s: Fit = error %d", what, e)
	}
}

// method is a new method's object.
func (w *world) method(t *testing.T, m api.Method) api.Word {
	t.Helper()
	x, e := code.Write(w.h, w.s[5], m)
	if e != api.OK {
		t.Fatalf("Write(%v) = error %d", m, e)
	}
	return x
}

// install has to be done; it answers the method.
func (w *world) install(t *testing.T, of, selector api.Word, m api.Method) api.Word {
	t.Helper()
	x := w.method(t, m)
	if e := class.Install(w.h, of, selector, x); e != api.OK {
		t.Fatalf("Install(%d, %d, %v) = error %d", of, selector, m, e)
	}
	return x
}

// withPrim is a method that answers 99 where its primitive fails.
func withPrim(n, args int) api.Method {
	return api.Method{Args: args, Temps: args, Stack: 1, Prim: n, Code: body(in(api.OpPushInt, 2048+99), in(api.OpReturn))}
}

// begin is a context without a sender at the first instruction of a method.
func (w *world) begin(t *testing.T, method, self api.Word) api.Word {
	t.Helper()
	x, e := interp.Activate(w.h, w.s[0], method, self, w.s[0], nil)
	if e != api.OK {
		t.Fatalf("Activate(%d) = error %d", method, e)
	}
	return x
}

// start is begin with a method that is written for it.
func (w *world) start(t *testing.T, self api.Word, m api.Method) api.Word {
	t.Helper()
	return w.begin(t, w.method(t, m), self)
}

// at is a context of a method at some instruction, with what is in its temporaries and on its stack, and Nil behind that.
func (w *world) at(t *testing.T, method, self api.Word, pc int, l ...api.Word) api.Word {
	t.Helper()
	m, e := code.Read(w.h, method)
	if e != api.OK {
		t.Fatalf("Read(%d) = error %d", method, e)
	}
	x := put(t, w.h, w.s[4], slices.Repeat(words(w.s[0]), 6+m.Temps+m.Stack)...)
	set(t, w.h, x, append(words(w.s[0], num(pc), num(len(l)), method, self, w.s[0]), l...)...)
	return x
}

// fillUp lets the heap have room for exactly so many more words; as few as an object's head can't be left over otherwise.
func (w *world) fillUp(t *testing.T, room int) {
	t.Helper()
	for left := w.h.Words() - w.h.Used() - room; left > 0; left = w.h.Words() - w.h.Used() - room {
		size := min(left-3, 500)
		if left-3-size > 0 && left-3-size < 3 {
			size -= 3
		}
		if size < 0 {
			t.Fatalf("%d words can't be filled", left)
		}
		put(t, w.h, w.s[8], slices.Repeat(words(num(0)), size)...)
	}
}

// noObjects are words that lead to none, so that those of them that are even are not valid, but for the word 0.
func noObjects(h *heap.Heap) []api.Word {
	l := words(0, num(0), num(1), num(-1), num(greatest), num(least), math.MaxUint64-1, 1<<63, 1<<63+2, 1<<32, 1<<32+2,
		ref(1<<31-1), ref(65535), ref(65536), ref(h.Words()), ref(h.Words()-1), ref(h.Used()), ref(h.Used()+1))
	if refs := h.Objects(); len(refs) > 0 {
		l = append(l, refs[0]+2, refs[len(refs)-1]+2, refs[len(refs)/2]-2)
	}
	return slices.DeleteFunc(l, h.Has)
}

// invalid are those that are in no field.
func invalid(h *heap.Heap) []api.Word {
	return slices.DeleteFunc(noObjects(h), func(w api.Word) bool { return w == 0 || w%2 == 1 })
}

// noHeaps are a nil heap and one that New did not make.
func noHeaps() map[string]*heap.Heap {
	return map[string]*heap.Heap{"nil": nil, "empty": {}}
}
