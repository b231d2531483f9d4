package class_test

import (
	"fmt"
	"maps"
	"slices"
	"testing"

	"tappet/api"
	"tappet/class"
	"tappet/code"
	"tappet/gc"
	"tappet/heap"
	"tappet/verify"
)

// model is a heap as a list of objects, with the chapter's words told as plainly as they can be.
type model struct {
	h       *heap.Heap
	root    api.Word
	refs    []api.Word
	objects map[api.Word]heap.Object
}

func modelOf(h *heap.Heap) *model {
	m := &model{h, h.Root(), h.Objects(), map[api.Word]heap.Object{}}
	for k, o := range h.Dump() {
		m.objects[m.refs[k]] = o
	}
	return m
}

func (m *model) special(k int) api.Word {
	if l := m.objects[m.root].Fields; k >= 0 && k < 20 && k < len(l) {
		return l[k]
	}
	return 0
}

func (m *model) none() api.Word { return m.special(0) }

// of: is a word an object of a special class?
func (m *model) of(w api.Word, k int) bool {
	o, ok := m.objects[w]
	return ok && o.Class == m.special(k)
}

// is: is it a class?
func (m *model) is(w api.Word) bool {
	if !m.of(w, 7) || len(m.objects[w].Fields) != 4 {
		return false
	}
	l := m.objects[w].Fields
	super := m.of(l[0], 7) || l[0] == m.none() && l[0] != 0
	dict := m.of(l[1], 8) && len(m.objects[l[1]].Fields)%2 == 0 || l[1] == m.none() && l[1] != 0
	return super && dict && l[2]%2 == 1 && l[2] <= num(64) && (l[3] == num(0) || l[3] == num(1))
}

// number is field k of a class, an integer that is not below 0.
func (m *model) number(c api.Word, k int) int { return int(m.objects[c].Fields[k] / 2) }

func (m *model) fields(c api.Word) int {
	if !m.is(c) || c == m.special(7) || c == m.special(5) {
		return 0
	}
	return m.number(c, 2)
}

// dict is the fields of a class's dictionary.
func (m *model) dict(c api.Word) []api.Word {
	d := m.objects[c].Fields[1]
	if d == m.none() {
		return nil
	}
	return m.objects[d].Fields
}

// line are a class and its superclasses, as long as they are classes.
func (m *model) line(c api.Word) []api.Word {
	var l []api.Word
	for len(l) < len(m.refs) && m.is(c) {
		l = append(l, c)
		c = m.objects[c].Fields[0]
	}
	return l
}

func (m *model) selector(w api.Word) bool {
	_, ok := m.objects[w]
	return ok && w != m.none()
}

func (m *model) lookup(c, selector api.Word) (api.Word, api.Errno) {
	if !m.selector(selector) {
		return 0, api.ErrLookup
	}
	for _, x := range m.line(c) {
		d := m.dict(x)
		for k := 0; k < len(d); k += 2 {
			if d[k] == selector {
				return d[k+1], api.OK
			}
		}
	}
	return 0, api.ErrLookup
}

func (m *model) above(c, method api.Word) (api.Word, bool) {
	for _, x := range m.line(c) {
		d := m.dict(x)
		for k := 0; k < len(d); k += 2 {
			if d[k] != m.none() && d[k+1] == method {
				return m.objects[x].Fields[0], true
			}
		}
	}
	return 0, false
}

// after is what the objects of a heap are when a call is done.
type after struct {
	objects []heap.Object
	e       api.Errno
}

// list are the objects with copies of their fields, so that the model may change them.
func (m *model) list() []heap.Object {
	var l []heap.Object
	for _, w := range m.refs {
		o := m.objects[w]
		o.Fields = slices.Clone(o.Fields)
		l = append(l, o)
	}
	return l
}

// with is the list with another word in a field.
func (m *model) with(l []heap.Object, w api.Word, k int, v api.Word) {
	l[slices.Index(m.refs, w)].Fields[k] = v
}

func (m *model) mayInstall(c, method api.Word) bool {
	_, e := verify.Check(m.h, method, m.fields(c), nil)
	return e == api.OK && m.of(method, 5)
}

func (m *model) install(c, selector, method api.Word) after {
	l := m.list()
	if !m.is(c) || !m.selector(selector) || m.of(selector, 8) {
		return after{l, api.ErrArg}
	}
	if !m.mayInstall(c, method) {
		return after{l, api.ErrMethod}
	}
	d := m.dict(c)
	for _, wanted := range []api.Word{selector, m.none()} {
		for k := 0; k < len(d); k += 2 {
			if d[k] == wanted {
				m.with(l, m.objects[c].Fields[1], k, selector)
				m.with(l, m.objects[c].Fields[1], k+1, method)
				return after{l, api.OK}
			}
		}
	}
	if len(d)+2 > 512 || m.h.Used()+3+len(d)+2 > m.h.Words() {
		return after{l, api.ErrMemory}
	}
	m.with(l, c, 1, ref(m.h.Used()))
	grown := heap.Object{Class: m.special(8), Fields: append(slices.Clone(d), selector, method)}
	return after{append(l, grown), api.OK}
}

func (m *model) remove(c, selector api.Word) after {
	l := m.list()
	if !m.is(c) {
		return after{l, api.ErrArg}
	}
	d := m.dict(c)
	for k := 0; k < len(d) && m.selector(selector); k += 2 {
		if d[k] == selector {
			m.with(l, m.objects[c].Fields[1], k, m.none())
			m.with(l, m.objects[c].Fields[1], k+1, m.none())
			return after{l, api.OK}
		}
	}
	return after{l, api.ErrLookup}
}

// faults are the conditions of a runnable heap that do not hold, by their names. Where the specials are not what they have to be, there is no telling of the others.
func (m *model) faults() []string {
	if !m.of(m.root, 8) || len(m.objects[m.root].Fields) != 20 {
		return []string{"root"}
	}
	found := map[string]bool{}
	m.faultsOfSpecials(found)
	if found["special"] {
		return []string{"special"}
	}
	for _, w := range m.refs {
		m.faultsOfObject(found, w)
	}
	for _, w := range m.refs {
		if m.is(w) {
			m.faultsOfClass(found, w)
			m.faultsOfDict(found, w)
		}
	}
	for _, k := range []int{5, 7} {
		for _, c := range m.line(m.special(k)) {
			if c != m.special(k) && m.number(c, 2) != 0 {
				found["above"] = true
			}
		}
	}
	return slices.Sorted(maps.Keys(found))
}

func (m *model) faultsOfSpecials(found map[string]bool) {
	for k := range 19 {
		for i := range k {
			if m.special(k) == m.special(i) {
				found["special"] = true
			}
		}
		if _, ok := m.objects[m.special(k)]; !ok {
			found["special"] = true
		}
	}
	for k, want := range map[int][2]int{3: {0, 0}, 4: {6, 1}, 5: {5, 1}, 6: {3, 0}, 7: {4, 0}, 8: {0, 1}} {
		c := m.special(k)
		if !m.is(c) || m.number(c, 2) != want[0] || m.number(c, 3) != want[1] {
			found["shape"] = true
		}
	}
	if m.special(19) != m.none() && !m.of(m.special(19), 4) {
		found["active"] = true
	}
}

func (m *model) faultsOfObject(found map[string]bool, w api.Word) {
	o := m.objects[w]
	if o.Class == m.root || slices.Contains(o.Fields, m.root) {
		found["to the root"] = true
	}
	if slices.Contains(o.Fields, 0) {
		found["zero"] = true
	}
	if !m.is(o.Class) {
		found["class"] = true
	} else if n := m.number(o.Class, 2); len(o.Fields) < n || len(o.Fields) > n && m.number(o.Class, 3) == 0 {
		found["size"] = true
	}
	if m.of(w, 7) && !m.is(w) {
		found["no class"] = true
	}
	if _, e := code.Read(m.h, w); m.of(w, 5) && e != api.OK {
		found["no method"] = true
	}
}

func (m *model) faultsOfClass(found map[string]bool, c api.Word) {
	line := m.line(c)
	if slices.Contains(line[1:], c) {
		found["ring"] = true
	}
	if len(line) > 1 && m.number(line[1], 2) > m.number(c, 2) {
		found["fewer"] = true
	}
}

func (m *model) faultsOfDict(found map[string]bool, c api.Word) {
	d := m.objects[c].Fields[1]
	if d == m.none() {
		return
	}
	led := 0
	for _, o := range m.objects {
		for _, v := range o.Fields {
			if v == d {
				led++
			}
		}
		if o.Class == d {
			found["dictionary"] = true
		}
	}
	if led != 1 || d == m.root {
		found["dictionary"] = true
	}
	seen := map[api.Word]bool{}
	for l := m.dict(c); len(l) > 0; l = l[2:] {
		if l[0] == m.none() {
			if l[1] != m.none() {
				found["hole"] = true
			}
			continue
		}
		if !m.selector(l[0]) || seen[l[0]] {
			found["selector"] = true
		}
		seen[l[0]] = true
		if !m.mayInstall(c, l[1]) {
			found["installed"] = true
		}
	}
}

// dice are numbers that come in the same order in each run.
type dice uint64

func (d *dice) below(n int) int {
	*d = *d*6364136223846793005 + 1442695040888963407
	return int(*d>>33) % n
}

// word is most often an object.
func (d *dice) word(h *heap.Heap) api.Word {
	switch d.below(8) {
	case 0:
		return []api.Word{0, num(0), num(1), num(2), num(3), num(4), num(64), num(65), num(-1)}[d.below(9)]
	case 1:
		return h.Root()
	}
	refs := h.Objects()
	return refs[d.below(len(refs))]
}

// spoil changes a word of an object, its class, its size or the Root; most often where it matters.
func (d *dice) spoil(w *world) {
	h := w.h
	refs := h.Objects()
	x := refs[d.below(len(refs))]
	switch d.below(5) {
	case 0:
		x = []api.Word{w.root, w.thing, w.pair, w.triple, w.bag, w.s[3+d.below(6)]}[d.below(6)]
	case 1:
		x = []api.Word{w.thingDict, w.pairDict, w.methodDict}[d.below(3)]
	}
	// An object that was resized has moved those behind it, and with them what the world knows.
	if !h.Has(x) {
		x = refs[0]
	}
	size, _ := h.Size(x)
	switch kind := d.below(12); {
	case kind == 0:
		h.SetClass(x, d.word(h))
	case kind == 1:
		h.SetRoot(x)
	case kind == 2:
		h.Alloc(d.word(h), d.below(8), d.word(h))
	case kind == 3:
		l := h.Dump()
		k := slices.Index(refs, x)
		if size > 0 && d.below(2) == 0 {
			d.resize(h, k, l[k].Fields[:size-1])
		} else {
			d.resize(h, k, append(l[k].Fields, d.word(h)))
		}
	case kind < 6 && size > 1:
		a, b := d.below(size), d.below(size)
		v, _ := h.Fetch(x, a)
		h.Store(x, b, v)
	case size > 0:
		h.Store(x, d.below(size), d.word(h))
	}
}

// resize lets the k-th object have other fields, and moves all words that lead behind it. The list has what was stored before it is moved, so the new field is moved as well.
func (d *dice) resize(h *heap.Heap, k int, fields []api.Word) {
	refs, l := h.Objects(), h.Dump()
	by := len(fields) - len(l[k].Fields)
	l[k].Fields = fields
	moved := func(w api.Word) api.Word {
		if w%2 == 0 && w > refs[k] {
			return w + api.Word(2*by)
		}
		return w
	}
	for i := range l {
		l[i].Class = moved(l[i].Class)
		for j := range l[i].Fields {
			l[i].Fields[j] = moved(l[i].Fields[j])
		}
	}
	h.Load(l, moved(h.Root()), h.Hashes())
}

// compare asks for everything, and holds the answers against the model's; what the heap is does not change by it.
func compare(t *testing.T, what string, h *heap.Heap, d *dice) {
	t.Helper()
	m := modelOf(h)
	before := stateOf(h)
	for k := -1; k < 22; k++ {
		if x := class.Special(h, k); x != m.special(k) {
			t.Fatalf("%s: Special(%d) = %d, want %d", what, k, x, m.special(k))
		}
	}
	for _, w := range append(m.refs, 0, num(1), num(-1), ref(h.Used()), m.root+2) {
		want := m.objects[w].Class
		if w%2 == 1 {
			want = m.special(3)
		}
		if class.Of(h, w) != want || class.Is(h, w) != m.is(w) || class.Fields(h, w) != m.fields(w) {
			t.Fatalf("%s: of %d: %d, %v, %d, want %d, %v, %d", what, w, class.Of(h, w), class.Is(h, w), class.Fields(h, w), want, m.is(w), m.fields(w))
		}
	}
	for range 20 {
		c, w := d.word(h), d.word(h)
		x, e := class.Lookup(h, c, w)
		if y, f := m.lookup(c, w); x != y || e != f {
			t.Fatalf("%s: Lookup(%d, %d) = %d, %d, want %d, %d", what, c, w, x, e, y, f)
		}
		x, ok := class.Above(h, c, w)
		if y, f := m.above(c, w); x != y || ok != f {
			t.Fatalf("%s: Above(%d, %d) = %d, %v, want %d, %v", what, c, w, x, ok, y, f)
		}
	}
	want := api.OK
	if len(m.faults()) > 0 {
		want = api.ErrImage
	}
	if e := class.Fit(h); e != want {
		t.Fatalf("%s: Fit = %d, but %v", what, e, m.faults())
	}
	if !same(stateOf(h), before) {
		t.Fatalf("%s: a question has changed the heap", what)
	}
}

// change installs or removes something, and holds the heap against the model's.
func change(t *testing.T, what string, h *heap.Heap, c, selector, method api.Word, install bool) api.Errno {
	t.Helper()
	m := modelOf(h)
	before := stateOf(h)
	want, e := m.remove(c, selector), api.OK
	if install {
		want = m.install(c, selector, method)
		e = class.Install(h, c, selector, method)
	} else {
		e = class.Remove(h, c, selector)
	}
	next := before
	next.objects = want.objects
	if len(want.objects) > len(before.objects) {
		next.refs = append(slices.Clone(before.refs), ref(before.used))
		next.used += 3 + len(want.objects[len(before.objects)].Fields)
	}
	if got := stateOf(h); e != want.e || !same(got, next) {
		t.Fatalf("%s: %v of %d, %d, %d = %d, want %d; %v, want %v", what, install, c, selector, method, e, want.e, got, next)
	}
	return e
}

// P7.1 to P7.5, for heaps that are runnable or not.

func TestSpoiledWorlds(t *testing.T) {
	outcomes := map[string]int{}
	for seed := range 4000 {
		d := dice(seed)
		w := newWorld(t, 270+d.below(60))
		for range d.below(4) {
			d.spoil(w)
		}
		what := fmt.Sprintf("seed %d", seed)
		compare(t, what, w.h, &d)
		outcomes[fmt.Sprint(modelOf(w.h).faults())]++
		for range 6 {
			c := []api.Word{w.thing, w.pair, w.triple, w.s[5], d.word(w.h)}[d.below(5)]
			selector := []api.Word{w.one, w.two, w.three, w.four, d.word(w.h)}[d.below(5)]
			method := []api.Word{w.plain, w.second, w.third, w.pushing, d.word(w.h)}[d.below(5)]
			e := change(t, what, w.h, c, selector, method, d.below(3) > 0)
			outcomes[e.Error()]++
		}
		compare(t, what+", changed", w.h, &d)
	}
	for _, name := range []string{
		"[]", "[root]", "[special]", "[shape]", "[active]", "[to the root]", "[zero]", "[class]", "[size]", "[no class size]", "[no method]",
		"[ring]", "[fewer]", "[dictionary]", "[hole]", "[selector]", "[installed]",
		api.OK.Error(), api.ErrArg.Error(), api.ErrMethod.Error(), api.ErrLookup.Error(), api.ErrMemory.Error(),
	} {
		if outcomes[name] == 0 {
			t.Errorf("%s did not come about: the test tells too little", name)
		}
	}
}

// P7.6

func TestRunnableHeapsStayRunnable(t *testing.T) {
	outcomes := map[api.Errno]int{}
	for seed := range 300 {
		d := dice(seed)
		w := newWorld(t, 280+d.below(200))
		classes := append(slices.Clone(w.s[3:9]), w.thing, w.pair, w.triple, w.bag)
		selectors := append(slices.Clone(w.s[9:19]), w.one, w.two, w.three, w.four, w.plain, w.pair, w.s[1])
		methods := []api.Word{w.plain, w.second, w.third, w.pushing, w.block}
		for k := range 60 {
			c, selector, method := classes[d.below(len(classes))], selectors[d.below(len(selectors))], methods[d.below(len(methods))]
			switch d.below(12) {
			case 0:
				c = d.word(w.h)
			case 1:
				selector = d.word(w.h)
			case 2:
				method = d.word(w.h)
			}
			what := fmt.Sprintf("seed %d, call %d", seed, k)
			e := change(t, what, w.h, c, selector, method, d.below(3) > 0)
			outcomes[e]++
			if e := class.Fit(w.h); e != api.OK {
				t.Fatalf("%s: Fit = %d, %v", what, e, modelOf(w.h).faults())
			}
		}
		compare(t, fmt.Sprintf("seed %d", seed), w.h, &d)
		if _, _, e := gc.Run(w.h, nil); e != api.OK || class.Fit(w.h) != api.OK {
			t.Fatalf("seed %d: not runnable when collected", seed)
		}
	}
	for _, e := range []api.Errno{api.OK, api.ErrArg, api.ErrMethod, api.ErrLookup, api.ErrMemory} {
		if outcomes[e] < 50 {
			t.Errorf("outcomes %v: the test tells too little", outcomes)
		}
	}
}

func TestInstalledIsFoundUnlessOverridden(t *testing.T) {
	w := newWorld(t, 2048)
	expect := func(what string, thing, pair, triple, bag api.Word) {
		t.Helper()
		for c, want := range map[api.Word]api.Word{w.thing: thing, w.pair: pair, w.triple: triple, w.bag: bag, w.s[3]: thing} {
			finds(t, w.h, c, w.four, want)
		}
		fit(t, w.h, what)
	}
	expect("at first", 0, 0, 0, 0)
	installs(t, w.h, "pair", w.pair, w.four, w.second, api.OK)
	expect("pair", 0, w.second, w.second, 0)
	installs(t, w.h, "thing", w.thing, w.four, w.plain, api.OK)
	expect("pair and thing", w.plain, w.second, w.second, w.plain)
	installs(t, w.h, "triple", w.triple, w.four, w.third, api.OK)
	expect("pair, thing and triple", w.plain, w.second, w.third, w.plain)
	removes(t, w.h, "pair", w.pair, w.four, api.OK)
	expect("thing and triple", w.plain, w.plain, w.third, w.plain)
	removes(t, w.h, "triple", w.triple, w.four, api.OK)
	expect("thing", w.plain, w.plain, w.plain, w.plain)
	installs(t, w.h, "another one of thing", w.thing, w.four, w.pushing, api.OK)
	expect("another one of thing", w.pushing, w.pushing, w.pushing, w.pushing)
	removes(t, w.h, "thing", w.thing, w.four, api.OK)
	expect("none", 0, 0, 0, 0)
}
