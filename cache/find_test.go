package cache_test

import (
	"slices"
	"testing"

	"tappet/api"
	"tappet/class"
	"tappet/gc"
)

// P8.3: Find and Counts

func TestFind(t *testing.T) {
	w := newWorld(t, 1024)
	one, two := w.selectors[0], w.selectors[1]
	w.install(t, w.classes[0], one, w.methods[0])
	c := made(t, 256)
	w.unchanged(t, "Find", func() {
		w.finds(t, c, w.classes[0], one, w.methods[0])
		counts(t, c, 0, 1)
		holds(t, c, w.classes[0], one, w.methods[0])
		w.finds(t, c, w.classes[0], one, w.methods[0])
		counts(t, c, 1, 1)
		// Below it the method is found under the class that was asked for.
		lacks(t, c, w.classes[2], one)
		w.finds(t, c, w.classes[2], one, w.methods[0])
		counts(t, c, 1, 2)
		holds(t, c, w.classes[2], one, w.methods[0])
		lacks(t, c, w.classes[1], one)
		w.finds(t, c, w.classes[2], one, w.methods[0])
		w.finds(t, c, w.classes[0], one, w.methods[0])
		counts(t, c, 3, 2)
		// What is not understood is not remembered, so that it is looked up each time.
		for k := range 3 {
			w.finds(t, c, w.classes[0], two, 0)
			lacks(t, c, w.classes[0], two)
			counts(t, c, 3, 3+k)
		}
	})
	dropped(t, c)
}

// An error leaves the line as it is, even if another key is in it.
func TestFindOfAnErrorKeepsTheLine(t *testing.T) {
	w := newWorld(t, 1024)
	w.install(t, w.classes[0], w.selectors[0], w.methods[0])
	c := made(t, 1)
	w.finds(t, c, w.classes[0], w.selectors[0], w.methods[0])
	for _, x := range w.words() {
		w.finds(t, c, w.classes[0], x+1, 0)
		w.finds(t, c, x, w.selectors[1], 0)
		w.finds(t, c, x, w.s[0], 0)
	}
	n := 3 * len(w.words())
	counts(t, c, 0, 1+n)
	w.finds(t, c, w.classes[0], w.selectors[0], w.methods[0])
	counts(t, c, 1, 1+n)
}

// Two keys that share a line are looked up in turn.
func TestFindOfASharedLine(t *testing.T) {
	w := newWorld(t, 1024)
	one, two := w.selectors[0], w.selectors[1]
	w.install(t, w.classes[0], one, w.methods[0])
	w.install(t, w.classes[0], two, w.methods[1])
	c := made(t, 1)
	for k := range 4 {
		w.finds(t, c, w.classes[0], one, w.methods[0])
		lacks(t, c, w.classes[0], two)
		w.finds(t, c, w.classes[0], two, w.methods[1])
		lacks(t, c, w.classes[0], one)
		counts(t, c, 0, 2*k+2)
	}
	w.finds(t, c, w.classes[0], two, w.methods[1])
	counts(t, c, 1, 8)
}

// What a line has is answered, whatever the heap says, and stays in it.
func TestFindAnswersWhatWasPut(t *testing.T) {
	w := newWorld(t, 1024)
	w.install(t, w.classes[0], w.selectors[0], w.methods[0])
	c := made(t, 1)
	for k, x := range w.words() {
		c.Put(w.classes[0], w.selectors[0], x)
		if m, e := c.Find(w.h, w.classes[0], w.selectors[0]); m != x || e != api.OK {
			t.Errorf("Find = %d, error %d behind Put of %d", m, e, x)
		}
		holds(t, c, w.classes[0], w.selectors[0], x)
		counts(t, c, k+1, 0)
	}
}

// In a heap that is not runnable the word 0 may stand in the place of a method: it is found and remembered as any other word.
func TestFindOfTheWordZero(t *testing.T) {
	w := newWorld(t, 1024)
	w.install(t, w.classes[0], w.selectors[0], w.methods[0])
	dict, _ := w.h.Fetch(w.classes[0], 1)
	store(t, w.h, dict, 1, 0)
	c := made(t, 16)
	for k := range 3 {
		if m, e := c.Find(w.h, w.classes[0], w.selectors[0]); m != 0 || e != api.OK {
			t.Errorf("Find = %d, error %d", m, e)
		}
		holds(t, c, w.classes[0], w.selectors[0], 0)
		counts(t, c, k, 1)
	}
}

// P8.1: without lines, each call looks up.
func TestFindWithoutLines(t *testing.T) {
	w := newWorld(t, 1024)
	w.install(t, w.classes[0], w.selectors[0], w.methods[0])
	for name, c := range noCaches() {
		for _, x := range w.words() {
			for _, selector := range w.words() {
				c.Put(x, selector, w.methods[3])
				m, e := c.Find(w.h, x, selector)
				if y, f := class.Lookup(w.h, x, selector); m != y || e != f {
					t.Errorf("%s cache: Find(%d, %d) = %d, error %d, want %d, error %d", name, x, selector, m, e, y, f)
				}
				lacks(t, c, x, selector)
				counts(t, c, 0, 0)
			}
		}
		w.finds(t, c, w.classes[0], w.selectors[0], w.methods[0])
		w.remove(t, w.classes[0], w.selectors[0])
		w.finds(t, c, w.classes[0], w.selectors[0], 0)
		w.install(t, w.classes[0], w.selectors[0], w.methods[0])
		dropped(t, c)
	}
}

// P8.4: what was installed or removed is found once its selector is dropped; before, a line answers what it remembers (P8.3).

func TestInstallAndDrop(t *testing.T) {
	w := newWorld(t, 1024)
	one, below := w.selectors[0], w.classes[2]
	c := made(t, 256)
	w.install(t, w.classes[0], one, w.methods[0])
	c.Drop(one)
	for _, x := range w.classes[:3] {
		w.finds(t, c, x, one, w.methods[0])
	}
	w.finds(t, c, w.classes[3], one, 0)
	// Another method of a class between them: without Drop the old one is still found.
	w.install(t, w.classes[1], one, w.methods[1])
	w.finds(t, c, below, one, w.methods[0])
	c.Drop(one)
	w.finds(t, c, below, one, w.methods[1])
	w.finds(t, c, w.classes[1], one, w.methods[1])
	w.finds(t, c, w.classes[0], one, w.methods[0])
	// The method of the same pair.
	w.install(t, w.classes[1], one, w.methods[2])
	w.finds(t, c, below, one, w.methods[1])
	c.Drop(one)
	w.finds(t, c, below, one, w.methods[2])
	// What was not understood is found without Drop.
	w.install(t, w.classes[3], one, w.methods[3])
	w.finds(t, c, w.classes[3], one, w.methods[3])
	dropped(t, c, one, one, one)
}

func TestRemoveAndDrop(t *testing.T) {
	w := newWorld(t, 1024)
	one, two, below := w.selectors[0], w.selectors[1], w.classes[2]
	c := made(t, 256)
	w.install(t, w.classes[0], one, w.methods[0])
	w.install(t, w.classes[1], one, w.methods[1])
	w.install(t, w.classes[0], two, w.methods[2])
	w.finds(t, c, below, one, w.methods[1])
	w.finds(t, c, below, two, w.methods[2])
	w.remove(t, w.classes[1], one)
	w.finds(t, c, below, one, w.methods[1])
	c.Drop(two)
	w.finds(t, c, below, one, w.methods[1])
	c.Drop(one)
	w.finds(t, c, below, one, w.methods[0])
	w.remove(t, w.classes[0], one)
	w.finds(t, c, below, one, w.methods[0])
	c.Drop(one)
	w.finds(t, c, below, one, 0)
	w.finds(t, c, w.classes[1], one, 0)
	w.finds(t, c, below, two, w.methods[2])
	dropped(t, c, two, one, one)
}

// collect has the world's garbage removed, so that its classes move.
func (w *world) collect(t *testing.T) {
	t.Helper()
	roots := slices.Concat(w.classes, w.selectors, w.methods)
	moved, freed, e := gc.Run(w.h, roots)
	if e != api.OK || freed != 7 {
		t.Fatalf("Run(%v) = %v, %d, error %d, want 7 words freed", roots, moved, freed, e)
	}
	n := len(w.classes)
	if slices.Equal(moved[:n], roots[:n]) || !slices.Equal(moved[n:], roots[n:]) {
		t.Fatalf("Run(%v) = %v: it is the classes that have to move", roots, moved)
	}
	w.classes = moved[:n]
}

func TestClearWhenObjectsMove(t *testing.T) {
	w := newWorld(t, 1024)
	one := w.selectors[0]
	for k, x := range w.classes {
		w.install(t, x, one, w.methods[k])
	}
	stale, c := made(t, 256), made(t, 256)
	for k, x := range w.classes {
		w.finds(t, stale, x, one, w.methods[k])
		w.finds(t, c, x, one, w.methods[k])
	}
	w.collect(t)
	c.Clear()
	for k, x := range w.classes {
		w.finds(t, c, x, one, w.methods[k])
		w.finds(t, c, x, one, w.methods[k])
	}
	counts(t, c, 4, 8)
	// Each class has moved to the place of the one ahead of it, the method of which is still remembered there.
	for k, x := range w.classes[1:] {
		w.finds(t, stale, x, one, w.methods[k])
	}
	counts(t, stale, 3, 4)
}
