package cache_test

import (
	"slices"
	"testing"

	"tappet/api"
	"tappet/cache"
	"tappet/class"
	"tappet/code"
	"tappet/heap"
)

// num is the word of an integer, worked out from chapter 1's sentences.
func num(n int) api.Word { return api.Word(2*n + 1) }

// put is a new object with these fields.
func put(t *testing.T, h *heap.Heap, class api.Word, fields ...api.Word) api.Word {
	t.Helper()
	w, e := h.Alloc(class, len(fields), num(0))
	if e != api.OK {
		t.Fatalf("Alloc(%d, %d) = error %d", class, len(fields), e)
	}
	for k, v := range fields {
		store(t, h, w, k, v)
	}
	return w
}

// store has to be done.
func store(t *testing.T, h *heap.Heap, w api.Word, k int, v api.Word) {
	t.Helper()
	if e := h.Store(w, k, v); e != api.OK {
		t.Fatalf("Store(%d, %d, %d) = error %d", w, k, v, e)
	}
}

// world is a runnable heap in which selectors and methods lie ahead of the classes, so that classes may move and these not.
type world struct {
	h         *heap.Heap
	s         [20]api.Word // the specials
	top       api.Word     // the class above all others
	selectors []api.Word
	methods   []api.Word // of any class
	garbage   api.Word   // of the size of a class, and nothing leads to it
	classes   []api.Word // each is below the one ahead of it, but for the last one, which is below top
}

func newWorld(t *testing.T, words int) *world {
	t.Helper()
	h, e := heap.New(words)
	if e != api.OK {
		t.Fatalf("heap.New(%d) = error %d", words, e)
	}
	w := &world{h: h}
	root := put(t, h, 0, slices.Repeat([]api.Word{num(0)}, 20)...)
	if e := h.SetRoot(root); e != api.OK {
		t.Fatalf("SetRoot = error %d", e)
	}
	for k := range 19 {
		size := 0
		if k >= 3 && k <= 8 {
			size = 4
		}
		w.s[k] = put(t, h, 0, slices.Repeat([]api.Word{num(0)}, size)...)
	}
	w.s[19] = w.s[0]
	w.top = put(t, h, w.s[7], w.s[0], w.s[0], num(0), num(0))
	w.settleSpecials(t, root)
	for range 4 {
		w.selectors = append(w.selectors, put(t, h, w.top))
	}
	for k := range 4 {
		m := api.Method{Stack: k, Code: []api.Instr{{Op: api.OpReturnSelf}}}
		x, e := code.Write(h, w.s[5], m)
		if e != api.OK {
			t.Fatalf("Write = error %d", e)
		}
		w.methods = append(w.methods, x)
	}
	w.garbage = put(t, h, w.top, slices.Repeat([]api.Word{num(0)}, 4)...)
	h.SetClass(w.garbage, w.s[8])
	above := w.top
	for range 3 {
		above = put(t, h, w.s[7], above, w.s[0], num(0), num(0))
		w.classes = append(w.classes, above)
	}
	w.classes = append(w.classes, put(t, h, w.s[7], w.top, w.s[0], num(0), num(0)))
	if e := class.Fit(h); e != api.OK {
		t.Fatalf("Fit = error %d", e)
	}
	return w
}

// settleSpecials lets the specials be what they have to be.
func (w *world) settleSpecials(t *testing.T, root api.Word) {
	t.Helper()
	w.h.SetClass(root, w.s[8])
	says := map[int][2]int{3: {0, 0}, 4: {6, 1}, 5: {5, 1}, 6: {3, 0}, 7: {4, 0}, 8: {0, 1}}
	for k, x := range w.s {
		store(t, w.h, root, k, x)
		w.h.SetClass(x, w.top)
		if f, ok := says[k]; ok {
			w.h.SetClass(x, w.s[7])
			for i, v := range []api.Word{w.top, w.s[0], num(f[0]), num(f[1])} {
				store(t, w.h, x, i, v)
			}
		}
	}
}

// words are those that lookups are asked for: classes, selectors, and what is neither.
func (w *world) words() []api.Word {
	l := append(slices.Clone(w.classes), w.selectors...)
	l = append(l, w.methods...)
	l = append(l, w.s[:]...)
	return append(l, w.top, w.h.Root(), 0, num(0), num(-1), w.top+2, api.Word(2*w.h.Used()), 1<<63)
}

// install has to be done. It does not tell a cache.
func (w *world) install(t *testing.T, c, selector, method api.Word) {
	t.Helper()
	if e := class.Install(w.h, c, selector, method); e != api.OK {
		t.Fatalf("Install(%d, %d, %d) = error %d", c, selector, method, e)
	}
}

// remove has to be done. It does not tell a cache.
func (w *world) remove(t *testing.T, c, selector api.Word) {
	t.Helper()
	if e := class.Remove(w.h, c, selector); e != api.OK {
		t.Fatalf("Remove(%d, %d) = error %d", c, selector, e)
	}
}

// finds has to answer this method; 0: it has to be an error.
func (w *world) finds(t *testing.T, c *cache.Cache, x, selector, want api.Word) {
	t.Helper()
	e := api.OK
	if want == 0 {
		e = api.ErrLookup
	}
	if m, f := c.Find(w.h, x, selector); m != want || f != e {
		t.Errorf("Find(%d, %d) = %d, error %d, want %d, error %d", x, selector, m, f, want, e)
	}
}

// unchanged runs something that must leave the heap as it is.
func (w *world) unchanged(t *testing.T, what string, run func()) {
	t.Helper()
	root, used, hashes, before := w.h.Root(), w.h.Used(), w.h.Hashes(), w.h.Dump()
	run()
	same := slices.EqualFunc(before, w.h.Dump(), func(x, y heap.Object) bool {
		return x.Class == y.Class && x.Hash == y.Hash && slices.Equal(x.Fields, y.Fields)
	})
	if !same || root != w.h.Root() || used != w.h.Used() || hashes != w.h.Hashes() {
		t.Errorf("%s changed the heap", what)
	}
}
