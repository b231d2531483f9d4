package heap_test

import (
	"slices"
	"testing"

	"tappet/api"
	"tappet/heap"
)

// P2.6

// model is a heap told as plainly as the chapter does: a list of objects, and where each begins.
type model struct {
	words, used, hashes int
	root                api.Word
	refs                []api.Word
	objects             []heap.Object
}

func (m *model) valid(w api.Word) bool {
	return w == 0 || w%2 == 1 || slices.Contains(m.refs, w)
}

func (m *model) alloc(class api.Word, size int, fill api.Word) (api.Word, api.Errno) {
	if size < 0 || size > 512 || !m.valid(class) || !m.valid(fill) {
		return 0, api.ErrArg
	}
	if m.used+3+size > m.words {
		return 0, api.ErrMemory
	}
	w := ref(m.used)
	m.refs = append(m.refs, w)
	m.objects = append(m.objects, heap.Object{Class: class, Fields: slices.Repeat([]api.Word{fill}, size)})
	m.used += 3 + size
	return w, api.OK
}

func (m *model) store(w api.Word, k int, v api.Word) api.Errno {
	n := slices.Index(m.refs, w)
	if n < 0 || k < 0 || k >= len(m.objects[n].Fields) || !m.valid(v) {
		return api.ErrArg
	}
	m.objects[n].Fields[k] = v
	return api.OK
}

func (m *model) fetch(w api.Word, k int) (api.Word, api.Errno) {
	n := slices.Index(m.refs, w)
	if n < 0 || k < 0 || k >= len(m.objects[n].Fields) {
		return 0, api.ErrArg
	}
	return m.objects[n].Fields[k], api.OK
}

func (m *model) setClass(w, class api.Word) api.Errno {
	n := slices.Index(m.refs, w)
	if n < 0 || !m.valid(class) {
		return api.ErrArg
	}
	m.objects[n].Class = class
	return api.OK
}

func (m *model) hash(w api.Word) (int, api.Errno) {
	n := slices.Index(m.refs, w)
	if n < 0 {
		return 0, api.ErrArg
	}
	if m.objects[n].Hash == 0 {
		m.hashes++
		m.objects[n].Hash = m.hashes
	}
	return m.objects[n].Hash, api.OK
}

func (m *model) setRoot(w api.Word) api.Errno {
	if !slices.Contains(m.refs, w) {
		return api.ErrArg
	}
	m.root = w
	return api.OK
}

// dice are numbers that come in the same order in each run.
type dice uint64

func (d *dice) below(n int) int {
	*d = *d*6364136223846793005 + 1442695040888963407
	return int(*d>>33) % n
}

// word is most often a valid one.
func (d *dice) word(m *model) api.Word {
	switch kind := d.below(8); {
	case kind == 0:
		return 0
	case kind <= 2:
		return num(d.below(200) - 100)
	case kind == 3:
		return api.Word(d.below(2 * m.words))
	case len(m.refs) == 0:
		return ref(m.used)
	}
	return m.refs[d.below(len(m.refs))]
}

// turn does one thing to both, and tells whether they answer alike.
func turn(d *dice, h *heap.Heap, m *model) bool {
	a, b, k := d.word(m), d.word(m), d.below(8)-1
	switch d.below(7) {
	case 0:
		w, e := h.Alloc(a, k, b)
		v, f := m.alloc(a, k, b)
		return w == v && e == f
	case 1, 2:
		return h.Store(a, k, b) == m.store(a, k, b)
	case 3:
		w, e := h.Fetch(a, k)
		v, f := m.fetch(a, k)
		return w == v && e == f
	case 4:
		return h.SetClass(a, b) == m.setClass(a, b)
	case 5:
		n, e := h.Hash(a)
		o, f := m.hash(a)
		return n == o && e == f
	}
	return h.SetRoot(a) == m.setRoot(a)
}

func TestAsTheModel(t *testing.T) {
	for seed := range 60 {
		d := dice(seed)
		words := 64 + d.below(300)
		h, m := made(t, words), &model{words: words, used: 1}
		for k := range 600 {
			if !turn(&d, h, m) {
				t.Fatalf("seed %d, turn %d: another answer than the model's", seed, k)
			}
			if h.Used() > h.Words() {
				t.Fatalf("seed %d, turn %d: %d words of %d are used", seed, k, h.Used(), h.Words())
			}
			if !same(stateOf(h), state(*m)) {
				t.Fatalf("seed %d, turn %d: %v, want %v", seed, k, stateOf(h), *m)
			}
			if k%50 == 49 {
				restored(t, h)
			}
		}
	}
}

// restored loads what is dumped, into a heap of its own and into the same one, with nothing to be seen of it.
func restored(t *testing.T, h *heap.Heap) {
	t.Helper()
	g := made(t, h.Words())
	put(t, g, 0, 5, num(1))
	load(t, g, h.Dump(), h.Root(), h.Hashes())
	if !same(stateOf(g), stateOf(h)) {
		t.Fatalf("restored: %v, want %v", stateOf(g), stateOf(h))
	}
	for w := range api.Word(2*h.Words() + 8) {
		if g.Has(w) != h.Has(w) {
			t.Fatalf("restored: Has(%d) = %v", w, g.Has(w))
		}
	}
	unchanged(t, h, "Load of its own Dump", func() { load(t, h, h.Dump(), h.Root(), h.Hashes()) })
}

func TestObjectsDoNotShareFields(t *testing.T) {
	h := made(t, 4096)
	sizes := []int{0, 1, 5, 0, 2, 100, 512, 0, 3}
	var refs []api.Word
	for _, size := range sizes {
		refs = append(refs, put(t, h, 0, size, num(0)))
	}
	for n, w := range refs {
		for k := range sizes[n] {
			if e := h.Store(w, k, num(1000*n+k)); e != api.OK {
				t.Fatalf("Store = %d", e)
			}
		}
		h.SetClass(w, num(-n))
		h.Hash(w)
	}
	for n, w := range refs {
		for k := range sizes[n] {
			if v, e := h.Fetch(w, k); v != num(1000*n+k) || e != api.OK {
				t.Errorf("field %d of object %d = %d, %d", k, n, v, e)
			}
		}
		if c, e := h.Class(w); c != num(-n) || e != api.OK {
			t.Errorf("the class of object %d = %d, %d", n, c, e)
		}
		if size, e := h.Size(w); size != sizes[n] || e != api.OK {
			t.Errorf("the size of object %d = %d, %d", n, size, e)
		}
		if hash, e := h.Hash(w); hash != n+1 || e != api.OK {
			t.Errorf("the hash of object %d = %d, %d", n, hash, e)
		}
	}
}

// P1

func TestCopyOfAHeapDoesNotPanic(t *testing.T) {
	h, _ := sample(t)
	g := *h
	d, m := dice(1), &model{words: 64, used: 14, refs: h.Objects(), objects: h.Dump()}
	for k := range 2000 {
		turn(&d, h, m)
		turn(&d, &g, m)
		if k%100 == 99 {
			h.Load([]heap.Object{{Fields: make([]api.Word, k%7)}}, 0, 0)
		}
		stateOf(h)
		stateOf(&g)
	}
}
