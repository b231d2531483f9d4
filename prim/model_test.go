package prim_test

import (
	"slices"
	"testing"

	"tappet/api"
	"tappet/heap"
	"tappet/prim"
)

// dice are numbers that come in the same order in each run.
type dice uint64

func (d *dice) below(n int) int {
	*d = *d*6364136223846793005 + 1442695040888963407
	return int(*d>>33) % n
}

// word is one of a list.
func (d *dice) word(l []api.Word) api.Word { return l[d.below(len(l))] }

// model is a heap as a list of objects, with the chapter's words told as plainly as they can be.
type model struct {
	state
	refs []api.Word
}

func modelOf(h *heap.Heap) *model { return &model{stateOf(h), h.Objects()} }

// object is the one to which a word leads; nil: there is none.
func (m *model) object(w api.Word) *heap.Object {
	if k := slices.Index(m.refs, w); k >= 0 {
		return &m.objects[k]
	}
	return nil
}

func (m *model) special(k int) api.Word {
	if o := m.object(m.root); o != nil && k < len(o.Fields) {
		return o.Fields[k]
	}
	return 0
}

// of: is a word an object of a special class?
func (m *model) of(w api.Word, k int) bool {
	o := m.object(w)
	return o != nil && o.Class == m.special(k)
}

// isClass: is it a class?
func (m *model) isClass(w api.Word) bool {
	if !m.of(w, 7) || len(m.object(w).Fields) != 4 {
		return false
	}
	l, none := m.object(w).Fields, m.special(0)
	super := m.of(l[0], 7) || l[0] == none && l[0] != 0
	dict := m.of(l[1], 8) && len(m.object(l[1]).Fields)%2 == 0 || l[1] == none && l[1] != 0
	return super && dict && l[2]%2 == 1 && l[2] <= num(64) && (l[3] == num(0) || l[3] == num(1))
}

func (m *model) named(class api.Word) int { return int(m.object(class).Fields[2] / 2) }

func (m *model) more(class api.Word) bool {
	return m.isClass(class) && m.object(class).Fields[3] == num(1)
}

// integer is a word's number; false if it has none.
func integer(w api.Word) (int, bool) { return int(w) >> 1, w%2 == 1 }

// run is what a primitive answers, and what it does.
func (m *model) run(n int, receiver api.Word, l []api.Word) (api.Word, api.Errno) {
	if size, ok := takes[n]; !ok || size != len(l) {
		return 0, api.ErrFail
	}
	o, truth := m.object(receiver), m.special(2)
	switch n {
	case 1:
		w := m.special(3)
		if receiver%2 == 0 {
			if o == nil {
				return 0, api.ErrFail
			}
			w = o.Class
		}
		if w == 0 {
			return 0, api.ErrFail
		}
		return w, api.OK
	case 2:
		if receiver == l[0] {
			truth = m.special(1)
		}
		return truth, api.OK
	case 3:
		return m.hash(o)
	case 7, 8:
		return m.instance(n, receiver, l)
	case 11:
		if v, ok := integer(receiver); ok && v != least {
			return num(-v), api.OK
		}
		return 0, api.ErrFail
	}
	return m.field(n, o, l)
}

func (m *model) hash(o *heap.Object) (api.Word, api.Errno) {
	if o == nil || o.Hash == 0 && m.hashes == 1<<40-1 {
		return 0, api.ErrFail
	}
	if o.Hash == 0 {
		m.hashes++
		o.Hash = m.hashes
	}
	return num(o.Hash), api.OK
}

func (m *model) instance(n int, class api.Word, l []api.Word) (api.Word, api.Errno) {
	if !m.isClass(class) || class == m.special(7) || class == m.special(5) || class == m.special(3) {
		return 0, api.ErrFail
	}
	size := m.named(class)
	if n == 8 {
		extra, ok := integer(l[0])
		if !ok || extra < 0 || extra > 256 || !m.more(class) {
			return 0, api.ErrFail
		}
		size += extra
	}
	if m.used+3+size > m.words {
		return 0, api.ErrMemory
	}
	w := ref(m.used)
	m.objects = append(m.objects, heap.Object{Class: class, Fields: fill(m.special(0), size)})
	m.refs = append(m.refs, w)
	m.used += 3 + size
	return w, api.OK
}

// field is what the primitives 4, 5, 6, 9 and 10 answer.
func (m *model) field(n int, o *heap.Object, l []api.Word) (api.Word, api.Errno) {
	if o == nil || o.Class == m.special(7) || o.Class == m.special(5) {
		return 0, api.ErrFail
	}
	named := 0
	if n < 9 {
		if !m.more(o.Class) {
			return 0, api.ErrFail
		}
		named = m.named(o.Class)
	}
	if n == 4 {
		return num(len(o.Fields) - named), api.OK
	}
	k, ok := integer(l[0])
	if !ok || k < 1 || k > len(o.Fields)-named {
		return 0, api.ErrFail
	}
	at := named + k - 1
	if n == 5 || n == 9 {
		return o.Fields[at], api.OK
	}
	if l[1]%2 == 0 && l[1] != 0 && m.object(l[1]) == nil {
		return 0, api.ErrFail
	}
	o.Fields[at] = l[1]
	return l[1], api.OK
}

// compare runs a primitive on the heap and on its model.
func compare(t *testing.T, h *heap.Heap, n int, receiver api.Word, l []api.Word) api.Errno {
	t.Helper()
	m := modelOf(h)
	want, e := m.run(n, receiver, l)
	if e != api.OK {
		m = modelOf(h)
	}
	w, f := prim.Run(h, n, receiver, l)
	if w != want || f != e {
		t.Fatalf("Run(%d, %d, %v) = %d, error %d, want %d, error %d", n, receiver, l, w, f, want, e)
	}
	if d := difference(stateOf(h), m.state); d != "" {
		t.Fatalf("Run(%d, %d, %v) left the heap with %s", n, receiver, l, d)
	}
	return e
}

// given is a word that a primitive may be given.
func (d *dice) given(h *heap.Heap) api.Word {
	switch d.below(6) {
	case 0, 1:
		return num(d.below(6))
	case 2:
		return d.word(append(noObjects(h), num(63), num(64), num(65), num(255), num(256), num(257)))
	}
	return d.word(h.Objects())
}

// arguments are as many as a primitive takes, but for a few lists; the first one is most often an index.
func (d *dice) arguments(h *heap.Heap, n int) []api.Word {
	l := make([]api.Word, takes[n])
	if d.below(20) == 0 {
		l = make([]api.Word, d.below(4))
	}
	for k := range l {
		l[k] = d.given(h)
		if k == 0 && d.below(2) == 0 {
			l[k] = num(d.below(5))
		}
	}
	return l
}

// spoil changes a word of an object, its class, or the Root.
func (d *dice) spoil(h *heap.Heap) {
	refs := h.Objects()
	x, v := d.word(refs), d.word(append(refs, 0, num(0), num(1), num(2), num(64), num(65), num(-1)))
	size, _ := h.Size(x)
	switch k := d.below(8); {
	case k == 0:
		h.SetClass(x, v)
	case k == 1:
		if d.below(3) == 0 {
			h.SetRoot(x)
		}
	case k < 4:
		h.Store(h.Root(), d.below(9), v)
	case size > 0:
		h.Store(x, d.below(size), v)
	}
}

// P9.1: any calls answer what the model's do, in heaps that are runnable and in such as are not.
func TestRandomCalls(t *testing.T) {
	done, noRoom := [12]int{}, 0
	for round := range 120 {
		w, d := newWorld(t, 2048), dice(round)
		if round%3 == 0 {
			fillUp(t, w, round%16)
		}
		if round%4 == 3 && w.h.Load(w.h.Dump(), w.root, 1<<40-4) != api.OK {
			t.Fatal("Load is an error")
		}
		for range 300 {
			if round%2 == 1 && d.below(12) == 0 {
				d.spoil(w.h)
			}
			n := 1 + d.below(11)
			if d.below(20) == 0 {
				n = d.below(40) - 10
			}
			switch e := compare(t, w.h, n, d.given(w.h), d.arguments(w.h, n)); e {
			case api.OK:
				done[n]++
			case api.ErrMemory:
				noRoom++
			}
		}
	}
	for n, times := range done {
		if n > 0 && times < 50 {
			t.Errorf("primitive %d was done only %d times", n, times)
		}
	}
	if noRoom < 50 {
		t.Errorf("there was no room only %d times", noRoom)
	}
}

// P9.1: each primitive, with all words that are at hand.
func TestAllWords(t *testing.T) {
	w := newWorld(t, 640)
	words := append(noObjects(w.h), w.h.Objects()...)
	for n := -1; n < 14; n++ {
		for _, x := range words {
			if size, ok := takes[n]; ok && size > 1 {
				compare(t, w.h, n, x, args(num(3), w.instance))
				compare(t, w.h, n, x, args(w.instance, num(3)))
				continue
			}
			compare(t, w.h, n, x, nil)
			for _, y := range words {
				if takes[n] == 1 {
					compare(t, w.h, n, x, args(y))
				}
			}
		}
	}
}
