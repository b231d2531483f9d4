package cache_test

import (
	"slices"
	"testing"

	"tappet/api"
	"tappet/class"
	"tappet/gc"
	"tappet/heap"
)

// dice are numbers that come in the same order in each run.
type dice uint64

func (d *dice) below(n int) int {
	*d = *d*6364136223846793005 + 1442695040888963407
	return int(*d>>33) % n
}

// word is one of a list.
func (d *dice) word(l []api.Word) api.Word { return l[d.below(len(l))] }

// model is a cache with the chapter's words told as plainly as they can be.
type model struct {
	lines                int
	held                 map[int][3]api.Word // class, selector and method of each line that is not empty
	drops                []api.Word          // all of them since Drops was called
	remembered, lookedUp int
}

func (m *model) get(x, selector api.Word) (api.Word, bool) {
	l, ok := m.held[index(m.lines, x, selector)]
	if !ok || l[0] != x || l[1] != selector {
		return 0, false
	}
	return l[2], true
}

func (m *model) put(x, selector, method api.Word) {
	m.held[index(m.lines, x, selector)] = [3]api.Word{x, selector, method}
}

func (m *model) drop(selector api.Word) {
	for k := range m.lines {
		if l, ok := m.held[k]; ok && l[1] == selector {
			delete(m.held, k)
		}
	}
	m.drops = append(m.drops, selector)
}

func (m *model) told() []api.Word {
	l := m.drops[max(0, len(m.drops)-64):]
	m.drops = nil
	return l
}

func (m *model) find(h *heap.Heap, x, selector api.Word) (api.Word, api.Errno) {
	if method, ok := m.get(x, selector); ok {
		m.remembered++
		return method, api.OK
	}
	m.lookedUp++
	method, e := class.Lookup(h, x, selector)
	if e == api.OK {
		m.put(x, selector, method)
	}
	return method, e
}

// P8.2 and P8.3: any calls answer what the model's do.
func TestRandomCalls(t *testing.T) {
	w := newWorld(t, 1024)
	for _, x := range w.classes[:2] {
		for k, selector := range w.selectors[:3] {
			w.install(t, x, selector, w.methods[k])
		}
	}
	few := append(w.words(), odd...)
	for round := range 80 {
		d := dice(round)
		lines := []int{1, 2, 3, 5, 16, 100, 255, 256}[round%8]
		c, m := made(t, lines), &model{lines: lines, held: map[int][3]api.Word{}}
		for range 1000 {
			x, selector := d.word(few), d.word(few)
			if d.below(2) == 0 {
				x, selector = d.word(w.classes), d.word(w.selectors)
			}
			switch k := d.below(100); {
			case k < 35:
				method := d.word(few)
				c.Put(x, selector, method)
				m.put(x, selector, method)
			case k < 70:
				y, e := c.Find(w.h, x, selector)
				if z, f := m.find(w.h, x, selector); y != z || e != f {
					t.Fatalf("round %d: Find(%d, %d) = %d, error %d, want %d, error %d", round, x, selector, y, e, z, f)
				}
			case k < 98:
				c.Drop(selector)
				m.drop(selector)
			case k < 99:
				dropped(t, c, m.told()...)
			default:
				c.Clear()
				clear(m.held)
			}
			y, ok := c.Get(x, selector)
			if z, is := m.get(x, selector); y != z || ok != is {
				t.Fatalf("round %d: Get(%d, %d) = %d, %v, want %d, %v", round, x, selector, y, ok, z, is)
			}
			for _, l := range m.held {
				holds(t, c, l[0], l[1], l[2])
			}
			counts(t, c, m.remembered, m.lookedUp)
			if t.Failed() {
				t.Fatalf("round %d", round)
			}
		}
	}
}

// P8.4: as long as each change is told, Find is Lookup.
func TestFindIsLookup(t *testing.T) {
	for round := range 60 {
		w, d := newWorld(t, 1024), dice(round)
		c := made(t, []int{1, 2, 7, 64, 255, 256}[round%6])
		for range 400 {
			x, selector := d.word(w.classes), d.word(w.selectors)
			switch k := d.below(100); {
			case k < 8:
				if class.Install(w.h, x, selector, d.word(w.methods)) == api.OK {
					c.Drop(selector)
				}
			case k < 14:
				if class.Remove(w.h, x, selector) == api.OK {
					c.Drop(selector)
				}
			case k < 18:
				w.move(t, &d)
				c.Clear()
			case k < 20:
				c.Drop(d.word(w.words()))
			case k < 30:
				x, selector = d.word(w.words()), d.word(w.words())
			}
			// The cache is asked more often than it changes, so that most answers come from a line.
			for range 2 {
				y, e := c.Find(w.h, x, selector)
				if z, f := class.Lookup(w.h, x, selector); y != z || e != f {
					t.Fatalf("round %d: Find(%d, %d) = %d, error %d, want %d, error %d", round, x, selector, y, e, z, f)
				}
			}
		}
		if remembered, _ := c.Counts(); remembered < 50 {
			t.Errorf("round %d: only %d calls were answered by a line", round, remembered)
		}
	}
}

// move lets a class be forgotten, another one take its part, and the collector move what is left.
func (w *world) move(t *testing.T, d *dice) {
	t.Helper()
	if d.below(2) == 0 {
		put(t, w.h, w.s[8])
	}
	w.classes[d.below(len(w.classes))] = put(t, w.h, w.s[7], w.top, w.s[0], num(0), num(0))
	roots, _, e := gc.Run(w.h, slices.Concat(w.classes, w.selectors, w.methods, w.s[:], []api.Word{w.top}))
	if e != api.OK {
		t.Fatalf("Run = error %d", e)
	}
	for _, l := range [][]api.Word{w.classes, w.selectors, w.methods, w.s[:]} {
		roots = roots[copy(l, roots):]
	}
	w.top = roots[0]
	if e := class.Fit(w.h); e != api.OK {
		t.Fatalf("Fit = error %d", e)
	}
}
