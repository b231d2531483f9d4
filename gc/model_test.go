package gc_test

import (
	"slices"
	"testing"

	"tappet/api"
	"tappet/gc"
	"tappet/heap"
)

// P3.3, and P3.1 and P3.2 over graphs of all kinds

// dice are numbers that come in the same order in each run.
type dice uint64

func (d *dice) below(n int) int {
	*d = *d*6364136223846793005 + 1442695040888963407
	return int(*d>>33) % n
}

// word is valid; it leads to an object in so many of eight cases.
func (d *dice) word(refs []api.Word, leads int) api.Word {
	switch {
	case len(refs) > 0 && d.below(8) < leads:
		return refs[d.below(len(refs))]
	case d.below(3) == 0:
		return 0
	}
	return num(d.below(200) - 100)
}

// graph is a heap of objects that lead to one another at random.
func graph(t *testing.T, d *dice) *heap.Heap {
	t.Helper()
	l := make([]heap.Object, d.below(40))
	refs := make([]api.Word, len(l))
	at, hashes := 1, 0
	for k := range l {
		l[k].Fields = make([]api.Word, d.below(5))
		refs[k] = ref(at)
		at += 3 + len(l[k].Fields)
	}
	leads := d.below(6)
	for k := range l {
		l[k].Class = d.word(refs, leads)
		for j := range l[k].Fields {
			l[k].Fields[j] = d.word(refs, leads)
		}
		if d.below(2) == 0 {
			hashes++
			l[k].Hash = hashes
		}
	}
	var root api.Word
	if len(refs) > 0 && d.below(4) > 0 {
		root = refs[d.below(len(refs))]
	}
	return held(t, 64+at, l, root, hashes+d.below(3))
}

// reachable is P3.1 told as plainly as it can be: the rule is applied to all objects until it adds nothing.
func reachable(h *heap.Heap, roots []api.Word) []api.Word {
	refs, objects := h.Objects(), h.Dump()
	leads := append(slices.Clone(roots), h.Root())
	var found []api.Word
	for grown := true; grown; {
		grown = false
		for k, w := range refs {
			if slices.Contains(found, w) || !slices.Contains(leads, w) {
				continue
			}
			found, grown = append(found, w), true
			leads = append(append(leads, objects[k].Class), objects[k].Fields...)
		}
	}
	slices.Sort(found)
	return found
}

// seen is an object without its place: what it leads to is named by the turn in which it was come to.
type seen struct {
	class, hash int
	fields      []int
}

// walk is the graph as someone sees it who goes from object to object and can't see where they are.
func walk(h *heap.Heap, roots []api.Word) ([]int, []seen) {
	refs, objects := h.Objects(), h.Dump()
	var turns []api.Word
	// Integers are odd and keep their word; objects are even, and 0 stays 0.
	name := func(w api.Word) int {
		if w == 0 || w%2 == 1 {
			return int(w)
		}
		k := slices.Index(turns, w)
		if k < 0 {
			k = len(turns)
			turns = append(turns, w)
		}
		return 2 * (k + 1)
	}
	names := func(words []api.Word) []int {
		var list []int
		for _, w := range words {
			list = append(list, name(w))
		}
		return list
	}
	starts := names(append([]api.Word{h.Root()}, roots...))
	var list []seen
	for k := 0; k < len(turns); k++ {
		o := objects[slices.Index(refs, turns[k])]
		list = append(list, seen{name(o.Class), o.Hash, names(o.Fields)})
	}
	return starts, list
}

func sameWalk(a, b []seen) bool {
	return slices.EqualFunc(a, b, func(x, y seen) bool {
		return x.class == y.class && x.hash == y.hash && slices.Equal(x.fields, y.fields)
	})
}

// checkOrder: are the objects that are left those that were reachable, in the same order, one behind the other? Their sizes, hashes and integers tell them.
func checkOrder(t *testing.T, before state, refs, kept []api.Word, h *heap.Heap) {
	t.Helper()
	after := h.Dump()
	if len(after) != len(kept) {
		t.Fatalf("%d objects are left of %d that are reachable", len(after), len(kept))
	}
	at := 1
	for k, w := range kept {
		old, now := before.objects[slices.Index(refs, w)], after[k]
		if h.Objects()[k] != ref(at) || old.Hash != now.Hash || len(old.Fields) != len(now.Fields) {
			t.Fatalf("object %d, once %d: %v at %d, was %v", k, w, now, h.Objects()[k], old)
		}
		for j, v := range append([]api.Word{old.Class}, old.Fields...) {
			got := append([]api.Word{now.Class}, now.Fields...)[j]
			want := v
			if v != 0 && v%2 == 0 {
				want = h.Objects()[slices.Index(kept, v)]
			}
			if got != want {
				t.Fatalf("object %d, once %d, word %d: %d, want %d", k, w, j, got, want)
			}
		}
		at += 3 + len(now.Fields)
	}
	if h.Used() != at {
		t.Fatalf("%d used, want %d", h.Used(), at)
	}
}

func TestAsTheModel(t *testing.T) {
	for seed := range 3000 {
		d := dice(seed)
		h := graph(t, &d)
		roots := make([]api.Word, d.below(4))
		for k := range roots {
			roots[k] = d.word(h.Objects(), 4)
		}
		before, refs, kept := stateOf(h), h.Objects(), reachable(h, roots)
		starts, graphBefore := walk(h, roots)

		l, freed := run(t, h, roots)

		startsAfter, graphAfter := walk(h, l)
		if !slices.Equal(starts, startsAfter) || !sameWalk(graphBefore, graphAfter) {
			t.Fatalf("seed %d: the graph is another one: %v %v, was %v %v", seed, startsAfter, graphAfter, starts, graphBefore)
		}
		checkOrder(t, before, refs, kept, h)
		if freed != before.used-h.Used() || h.Words() != before.words || h.Hashes() != before.hashes {
			t.Fatalf("seed %d: %d freed, %v, was %v", seed, freed, stateOf(h), before)
		}
		checkNoneStale(t, h, l)
		again(t, h, l)
	}
}

// checkNoneStale: does each word that can be read lead to an object, if it is a reference?
func checkNoneStale(t *testing.T, h *heap.Heap, roots []api.Word) {
	t.Helper()
	words := append(slices.Clone(roots), h.Root())
	for _, o := range h.Dump() {
		words = append(append(words, o.Class), o.Fields...)
	}
	for _, w := range words {
		if w != 0 && w%2 == 0 && !h.Has(w) {
			t.Fatalf("%d leads to no object: %v", w, stateOf(h))
		}
	}
}

func TestAHeapThatIsUsedAndCollectedInTurn(t *testing.T) {
	// Objects are named by what they hold, so that each is known again wherever it is.
	d := dice(7)
	h, _ := heap.New(300)
	var roots []api.Word
	var names []int
	next, freedOnce := 0, false
	for turn := range 3000 {
		w, e := h.Alloc(num(-turn), 1+d.below(6), num(next))
		if e == api.ErrMemory {
			for len(roots) > 15 {
				k := d.below(len(roots))
				roots, names = slices.Delete(roots, k, k+1), slices.Delete(names, k, k+1)
			}
			l, freed := run(t, h, roots)
			freedOnce = freedOnce || freed > 0
			roots = l
		} else {
			roots, names = append(roots, w), append(names, next)
			next++
		}
		for k, w := range roots {
			if v, e := h.Fetch(w, 0); v != num(names[k]) || e != api.OK {
				t.Fatalf("turn %d: object %d is at %d no more: %d, %d", turn, names[k], w, v, e)
			}
		}
	}
	if !freedOnce || next < 1000 {
		t.Errorf("%d objects were made: too few for a heap that is collected", next)
	}
}

// P1

func TestNothingPanics(t *testing.T) {
	for seed := range 300 {
		d := dice(seed)
		h := graph(t, &d)
		roots := make([]api.Word, d.below(5))
		for k := range roots {
			roots[k] = api.Word(d.below(2*h.Words() + 8))
		}
		right := !slices.ContainsFunc(roots, func(w api.Word) bool { return w != 0 && w%2 == 0 && !h.Has(w) })
		before := stateOf(h)
		l, freed, e := gc.Run(h, roots)
		if right != (e == api.OK) || !right && (e != api.ErrArg || len(l) != 0 || freed != 0 || !sameState(before, stateOf(h))) {
			t.Fatalf("seed %d: Run(%v) = %v, %d, %d: %v, was %v", seed, roots, l, freed, e, stateOf(h), before)
		}
	}
}
