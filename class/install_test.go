package class_test

import (
	"fmt"
	"slices"
	"testing"

	"tappet/api"
	"tappet/class"
	"tappet/heap"
)

// installs has to be answered in this way; after an error, nothing is changed.
func installs(t *testing.T, h *heap.Heap, what string, c, selector, method api.Word, want api.Errno) {
	t.Helper()
	before := stateOf(h)
	if e := class.Install(h, c, selector, method); e != want {
		t.Errorf("%s: Install(%d, %d, %d) = %d, want %d", what, c, selector, method, e, want)
	}
	if after := stateOf(h); want != api.OK && !same(before, after) {
		t.Errorf("%s: Install(%d, %d, %d) changed the heap: %v before, %v after", what, c, selector, method, before, after)
	}
}

// removes is the same for Remove.
func removes(t *testing.T, h *heap.Heap, what string, c, selector api.Word, want api.Errno) {
	t.Helper()
	before := stateOf(h)
	if e := class.Remove(h, c, selector); e != want {
		t.Errorf("%s: Remove(%d, %d) = %d, want %d", what, c, selector, e, want)
	}
	if after := stateOf(h); want != api.OK && !same(before, after) {
		t.Errorf("%s: Remove(%d, %d) changed the heap: %v before, %v after", what, c, selector, before, after)
	}
}

// becomes is what an object's fields have to be.
func becomes(t *testing.T, h *heap.Heap, what string, w api.Word, want ...api.Word) {
	t.Helper()
	if l := fields(t, h, w); !slices.Equal(l, want) {
		t.Errorf("%s: the fields of %d are %v, want %v", what, w, l, want)
	}
}

// onlyIn compares a heap with what it was: no object but one may have changed, and so many words are new.
func onlyIn(t *testing.T, what string, before, after state, changed api.Word, words int) {
	t.Helper()
	if after.used != before.used+words || after.root != before.root || after.hashes != before.hashes {
		t.Errorf("%s: %d words are used, were %d", what, after.used, before.used)
	}
	for k, o := range before.objects {
		p := after.objects[k]
		if before.refs[k] != changed && (p.Class != o.Class || p.Hash != o.Hash || !slices.Equal(p.Fields, o.Fields)) {
			t.Errorf("%s: the object %d is %v, was %v", what, before.refs[k], p, o)
		}
	}
}

func fit(t *testing.T, h *heap.Heap, what string) {
	t.Helper()
	unchanged(t, h, "Fit", func() {
		if e := class.Fit(h); e != api.OK {
			t.Errorf("%s: Fit = %d", what, e)
		}
	})
}

// P7.3: what Install does

func TestChapterExample(t *testing.T) {
	w := newWorld(t, 1024)
	dict := put(t, w.h, w.s[8], w.four, w.plain)
	store(t, w.h, w.triple, 1, dict)
	below := put(t, w.h, w.s[7], w.triple, w.s[0], num(4), num(0))
	finds(t, w.h, w.triple, w.four, w.plain)
	finds(t, w.h, below, w.four, w.plain)
	installs(t, w.h, "two", w.triple, w.two, w.third, api.OK)
	grown := field(t, w.h, w.triple, 1)
	if grown == dict {
		t.Errorf("no new dictionary")
	}
	becomes(t, w.h, "the new dictionary", grown, w.four, w.plain, w.two, w.third)
	removes(t, w.h, "four", w.triple, w.four, api.OK)
	finds(t, w.h, w.triple, w.four, 0)
	installs(t, w.h, "four again", w.triple, w.four, w.third, api.OK)
	if d := field(t, w.h, w.triple, 1); d != grown {
		t.Errorf("a new dictionary, though there was a hole")
	}
	becomes(t, w.h, "with the hole in use", grown, w.four, w.third, w.two, w.third)
	fit(t, w.h, "afterwards")
}

func TestInstallReplaces(t *testing.T) {
	w := newWorld(t, 1024)
	before := stateOf(w.h)
	installs(t, w.h, "two", w.pair, w.two, w.plain, api.OK)
	becomes(t, w.h, "replaced, not in the hole ahead", w.pairDict, w.s[0], w.s[0], w.two, w.plain, w.three, w.plain, w.s[0], w.s[0])
	onlyIn(t, "replaced", before, stateOf(w.h), w.pairDict, 0)
	installs(t, w.h, "the same once more", w.pair, w.two, w.plain, api.OK)
	becomes(t, w.h, "the same once more", w.pairDict, w.s[0], w.s[0], w.two, w.plain, w.three, w.plain, w.s[0], w.s[0])
	fit(t, w.h, "replaced")
}

func TestInstallInTheFirstHole(t *testing.T) {
	w := newWorld(t, 1024)
	before := stateOf(w.h)
	installs(t, w.h, "four", w.pair, w.four, w.second, api.OK)
	becomes(t, w.h, "the first hole", w.pairDict, w.four, w.second, w.two, w.second, w.three, w.plain, w.s[0], w.s[0])
	// One that a superclass understands is new in the class.
	installs(t, w.h, "one", w.pair, w.one, w.plain, api.OK)
	becomes(t, w.h, "the last hole", w.pairDict, w.four, w.second, w.two, w.second, w.three, w.plain, w.one, w.plain)
	onlyIn(t, "the holes", before, stateOf(w.h), w.pairDict, 0)
	fit(t, w.h, "the holes")
}

func TestInstallInANewDictionary(t *testing.T) {
	w := newWorld(t, 1024)
	before := stateOf(w.h)
	installs(t, w.h, "three", w.thing, w.three, w.plain, api.OK)
	grown := field(t, w.h, w.thing, 1)
	if grown != ref(before.used) || class.Of(w.h, grown) != w.s[8] {
		t.Errorf("the new dictionary %d is of %d", grown, class.Of(w.h, grown))
	}
	becomes(t, w.h, "the new dictionary", grown, w.one, w.plain, w.two, w.pushing, w.three, w.plain)
	becomes(t, w.h, "the old dictionary", w.thingDict, w.one, w.plain, w.two, w.pushing)
	becomes(t, w.h, "the class", w.thing, w.s[0], grown, num(0), num(0))
	onlyIn(t, "a new dictionary", before, stateOf(w.h), w.thing, 3+6)
	fit(t, w.h, "a new dictionary")
}

func TestInstallTheFirst(t *testing.T) {
	w := newWorld(t, 1024)
	empty := put(t, w.h, w.s[8])
	store(t, w.h, w.bag, 1, empty)
	for _, c := range []api.Word{w.triple, w.bag, w.s[7]} {
		before := stateOf(w.h)
		installs(t, w.h, "the first", c, w.four, w.plain, api.OK)
		grown := field(t, w.h, c, 1)
		becomes(t, w.h, "the first", grown, w.four, w.plain)
		onlyIn(t, "the first", before, stateOf(w.h), c, 3+2)
		finds(t, w.h, c, w.four, w.plain)
	}
	becomes(t, w.h, "the dictionary without fields", empty)
	fit(t, w.h, "the first of some classes")
}

func TestInstallWhereNilIsAnArray(t *testing.T) {
	for _, size := range []int{0, 2, 3, 4} {
		w := newWorld(t, 1024)
		none := put(t, w.h, w.s[8], slices.Repeat([]api.Word{w.s[1]}, size)...)
		w.replace(t, w.s[0], none)
		if size > 1 {
			set(t, w.h, none, w.four, w.second)
		}
		if size > 3 {
			set(t, w.h, none, w.four, w.second, none, none)
		}
		fit(t, w.h, "Nil is an array")
		finds(t, w.h, w.triple, w.four, 0)
		before := fields(t, w.h, none)
		installs(t, w.h, "Nil is an array", w.triple, w.four, w.plain, api.OK)
		becomes(t, w.h, "Nil is an array", none, before...)
		becomes(t, w.h, "Nil is an array", field(t, w.h, w.triple, 1), w.four, w.plain)
		removes(t, w.h, "Nil is an array", w.bag, w.four, api.ErrLookup)
		fit(t, w.h, "Nil is an array")
	}
}

// replace lets all that leads to an object lead to another one.
func (w *world) replace(t *testing.T, old, by api.Word) {
	t.Helper()
	for _, x := range w.h.Objects() {
		if c, _ := w.h.Class(x); c == old {
			reclass(t, w.h, x, by)
		}
		for k, v := range fields(t, w.h, x) {
			if v == old {
				store(t, w.h, x, k, by)
			}
		}
	}
	for k, x := range w.s {
		if x == old {
			w.s[k] = by
		}
	}
}

// fill lets a class have a dictionary with so many pairs, with selectors of their own.
func (w *world) fill(t *testing.T, c api.Word, count int) api.Word {
	t.Helper()
	var l []api.Word
	for range count {
		l = append(l, put(t, w.h, w.thing), w.plain)
	}
	dict := put(t, w.h, w.s[8], l...)
	store(t, w.h, c, 1, dict)
	return dict
}

func TestInstallInTheGreatestDictionary(t *testing.T) {
	w := newWorld(t, 4096)
	dict := w.fill(t, w.triple, 255)
	old := fields(t, w.h, dict)
	fit(t, w.h, "510 fields")
	installs(t, w.h, "512 fields", w.triple, w.four, w.third, api.OK)
	grown := field(t, w.h, w.triple, 1)
	becomes(t, w.h, "512 fields", grown, append(slices.Clone(old), w.four, w.third)...)
	fit(t, w.h, "512 fields")
	installs(t, w.h, "514 fields", w.triple, w.three, w.third, api.ErrMemory)
	for _, k := range []int{0, 2, 254, 510} {
		installs(t, w.h, "replaced in 512 fields", w.triple, field(t, w.h, grown, k), w.second, api.OK)
		becomes(t, w.h, "the class", w.triple, w.pair, grown, num(3), num(0))
	}
	for _, k := range []int{510, 0, 256} {
		removes(t, w.h, "out of 512 fields", w.triple, field(t, w.h, grown, k), api.OK)
		installs(t, w.h, "in the hole of 512 fields", w.triple, w.three, w.plain, api.OK)
		if field(t, w.h, grown, k) != w.three || field(t, w.h, grown, k+1) != w.plain {
			t.Errorf("the hole at %d is not in use", k)
		}
		removes(t, w.h, "three", w.triple, w.three, api.OK)
		installs(t, w.h, "one more", w.triple, put(t, w.h, w.thing), w.plain, api.OK)
		installs(t, w.h, "514 fields", w.triple, w.three, w.third, api.ErrMemory)
	}
	fit(t, w.h, "512 fields afterwards")
}

func TestInstallWithJustEnoughRoom(t *testing.T) {
	for _, count := range []int{0, 1, 4} {
		for _, left := range []int{3 + 2*count + 2, 3 + 2*count + 1, 3 + 2*count, 3, 2, 0} {
			w := newWorld(t, 1024)
			w.fill(t, w.triple, count)
			what := fmt.Sprintf("%d pairs, %d words left", count, left)
			for pad := w.h.Words() - w.h.Used() - left; pad > 0; {
				size := min(pad-3, 500)
				if rest := pad - 3 - size; rest > 0 && rest < 3 {
					size -= 3
				}
				put(t, w.h, w.s[8], slices.Repeat([]api.Word{num(0)}, size)...)
				pad -= 3 + size
			}
			if w.h.Words()-w.h.Used() != left {
				t.Fatalf("%s: %d are left", what, w.h.Words()-w.h.Used())
			}
			want := api.OK
			if left < 3+2*count+2 {
				want = api.ErrMemory
			}
			installs(t, w.h, what, w.triple, w.four, w.third, want)
			installs(t, w.h, what+", the second time", w.triple, w.four, w.second, want)
			fit(t, w.h, what)
			// What needs no room is done all the same.
			installs(t, w.h, what+", in a hole", w.pair, w.four, w.second, api.OK)
			installs(t, w.h, what+", replaced", w.pair, w.three, w.second, api.OK)
		}
	}
}

func TestInstallReplacesTheFirstPair(t *testing.T) {
	w := newWorld(t, 1024)
	dict := put(t, w.h, w.s[8], w.one, w.plain, w.four, w.plain, w.four, w.plain)
	store(t, w.h, w.triple, 1, dict)
	installs(t, w.h, "four", w.triple, w.four, w.third, api.OK)
	becomes(t, w.h, "four", dict, w.one, w.plain, w.four, w.third, w.four, w.plain)
	removes(t, w.h, "four", w.triple, w.four, api.OK)
	becomes(t, w.h, "four removed", dict, w.one, w.plain, w.s[0], w.s[0], w.four, w.plain)
	finds(t, w.h, w.triple, w.four, w.plain)
}

func TestInstallOverWhatIsLeftInAHole(t *testing.T) {
	w := newWorld(t, 1024)
	dict := put(t, w.h, w.s[8], w.one, w.plain, w.s[0], w.four, w.two, w.s[0])
	store(t, w.h, w.triple, 1, dict)
	installs(t, w.h, "four", w.triple, w.four, w.third, api.OK)
	becomes(t, w.h, "four", dict, w.one, w.plain, w.four, w.third, w.two, w.s[0])
}

// P7.3: what may be installed

func TestInstallEachMethod(t *testing.T) {
	w := newWorld(t, 1024)
	prim := write(t, w.h, w.s[5], api.Method{Prim: 20, Args: 1, Temps: 2, Stack: 16, Code: []api.Instr{in(18)}})
	last := write(t, w.h, w.s[5], api.Method{Stack: 1, Code: []api.Instr{in(4, 63), in(17)}})
	first := write(t, w.h, w.s[5], api.Method{Stack: 1, Code: []api.Instr{in(4), in(17)}})
	great := put(t, w.h, w.s[7], w.thing, w.s[0], num(64), num(0))
	rows := []struct {
		what   string
		class  api.Word
		method api.Word
		want   api.Errno
	}{
		{"without fields", w.thing, w.plain, api.OK},
		{"with a primitive", w.thing, prim, api.OK},
		{"with a block", w.thing, w.pushing, api.OK},
		{"field 1 of none", w.thing, w.second, api.ErrMethod},
		{"field 1 of two", w.pair, w.second, api.OK},
		{"field 2 of two", w.pair, w.third, api.ErrMethod},
		{"field 2 of three", w.triple, w.third, api.OK},
		{"field 0 of one and more", w.bag, first, api.OK},
		{"field 1 of one and more", w.bag, w.second, api.ErrMethod},
		{"field 63 of 64", great, last, api.OK},
		{"field 63 of three", w.triple, last, api.ErrMethod},
		{"field 2 of a context", w.s[4], w.third, api.OK},
		{"field 2 of a block", w.s[6], w.third, api.OK},
		{"field 0 of a class", w.s[7], first, api.ErrMethod},
		{"field 0 of a method", w.s[5], first, api.ErrMethod},
		{"without fields of a class", w.s[7], w.plain, api.OK},
		{"without fields of a method", w.s[5], w.plain, api.OK},
		{"field 0 of an integer", w.s[3], first, api.ErrMethod},
		{"field 0 of an array", w.s[8], first, api.ErrMethod},
	}
	for _, r := range rows {
		installs(t, w.h, r.what, r.class, w.four, r.method, r.want)
	}
	fit(t, w.h, "afterwards")
}

func TestInstallNoMethod(t *testing.T) {
	w := newWorld(t, 1024)
	under := write(t, w.h, w.s[5], api.Method{Code: []api.Instr{in(10), in(18)}})
	beyond := write(t, w.h, w.s[5], api.Method{Stack: 1, Code: []api.Instr{in(6)}})
	pushes := write(t, w.h, w.s[5], api.Method{Stack: 1, Lits: []api.Word{w.plain}, Code: []api.Instr{in(19), in(17)}})
	// As another method, but of another class.
	foreign := write(t, w.h, w.s[8], api.Method{Code: []api.Instr{in(18)}})
	classless := write(t, w.h, 0, api.Method{Code: []api.Instr{in(18)}})
	numbered := write(t, w.h, num(0), api.Method{Code: []api.Instr{in(18)}})
	// Of the class of methods, but none.
	broken := put(t, w.h, w.s[5], num(0), num(0), num(0), num(0), num(0))
	bad := []api.Word{under, beyond, pushes, foreign, classless, numbered, broken, w.block, w.s[0], w.s[1], w.one, w.pair, w.array, w.root, w.active}
	for _, method := range append(bad, noObjects(w.h)...) {
		for _, selector := range []api.Word{w.two, w.four} {
			installs(t, w.h, "no method", w.pair, selector, method, api.ErrMethod)
			installs(t, w.h, "no method", w.bag, selector, method, api.ErrMethod)
		}
	}
}

func TestInstallEachSelector(t *testing.T) {
	w := newWorld(t, 8192)
	for _, selector := range w.h.Objects() {
		c, _ := w.h.Class(selector)
		want := api.OK
		if selector == w.s[0] || c == w.s[8] {
			want = api.ErrArg
		}
		installs(t, w.h, "a selector", w.bag, selector, w.plain, want)
		if want == api.OK {
			finds(t, w.h, w.bag, selector, w.plain)
		}
	}
	for _, selector := range noObjects(w.h) {
		installs(t, w.h, "no selector", w.bag, selector, w.plain, api.ErrArg)
	}
	fit(t, w.h, "afterwards")
}

func TestInstallInNoClass(t *testing.T) {
	w := newWorld(t, 1024)
	for _, x := range words(w.h) {
		if !class.Is(w.h, x) {
			installs(t, w.h, "no class", x, w.four, w.plain, api.ErrArg)
			removes(t, w.h, "no class", x, w.one, api.ErrArg)
		}
	}
	for k, v := range map[int]api.Word{0: 0, 1: num(1), 2: num(65), 3: num(2)} {
		before := field(t, w.h, w.pair, k)
		store(t, w.h, w.pair, k, v)
		installs(t, w.h, "a class that is none", w.pair, w.four, w.plain, api.ErrArg)
		removes(t, w.h, "a class that is none", w.pair, w.two, api.ErrArg)
		store(t, w.h, w.pair, k, before)
	}
}

func TestTheErrorThatIsNamedFirst(t *testing.T) {
	w := newWorld(t, 1024)
	full := w.fill(t, w.triple, 2)
	for w.h.Words() > w.h.Used()+3 {
		put(t, w.h, w.s[8], slices.Repeat([]api.Word{num(0)}, min(400, w.h.Words()-w.h.Used()-3))...)
	}
	noClass, noSelector, noMethod := w.instance, w.array, w.block
	rows := []struct {
		class, selector, method api.Word
		want                    api.Errno
	}{
		{noClass, noSelector, noMethod, api.ErrArg},
		{noClass, w.four, noMethod, api.ErrArg},
		{noClass, w.four, w.plain, api.ErrArg},
		{w.triple, noSelector, noMethod, api.ErrArg},
		{w.triple, num(1), 0, api.ErrArg},
		{w.triple, w.s[0], noMethod, api.ErrArg},
		{w.triple, w.four, noMethod, api.ErrMethod},
		{w.triple, field(t, w.h, full, 0), noMethod, api.ErrMethod},
		{w.triple, noSelector, w.plain, api.ErrArg},
		{w.triple, w.four, w.plain, api.ErrMemory},
	}
	for _, r := range rows {
		installs(t, w.h, "more than one error", r.class, r.selector, r.method, r.want)
	}
	for _, selector := range []api.Word{num(1), 0, w.s[0], w.one, ref(3)} {
		removes(t, w.h, "more than one error", noClass, selector, api.ErrArg)
	}
}

// P7.4

func TestRemove(t *testing.T) {
	w := newWorld(t, 1024)
	none := w.s[0]
	before := stateOf(w.h)
	removes(t, w.h, "three", w.pair, w.three, api.OK)
	becomes(t, w.h, "three", w.pairDict, none, none, w.two, w.second, none, none, none, none)
	removes(t, w.h, "three again", w.pair, w.three, api.ErrLookup)
	removes(t, w.h, "two", w.pair, w.two, api.OK)
	becomes(t, w.h, "two", w.pairDict, none, none, none, none, none, none, none, none)
	onlyIn(t, "Remove", before, stateOf(w.h), w.pairDict, 0)
	fit(t, w.h, "Remove")
	finds(t, w.h, w.triple, w.two, w.pushing)
	finds(t, w.h, w.triple, w.three, 0)
	removes(t, w.h, "one of the superclass", w.pair, w.one, api.ErrLookup)
	removes(t, w.h, "one of a class without a dictionary", w.triple, w.one, api.ErrLookup)
	removes(t, w.h, "one", w.thing, w.one, api.OK)
	becomes(t, w.h, "one", w.thingDict, none, none, w.two, w.pushing)
	finds(t, w.h, w.triple, w.one, 0)
	fit(t, w.h, "Remove")
}

func TestRemoveNoSelector(t *testing.T) {
	w := newWorld(t, 1024)
	for _, selector := range append(noObjects(w.h), w.s[0], w.four, w.plain, w.second, w.array, w.root, w.pair) {
		removes(t, w.h, "no selector", w.pair, selector, api.ErrLookup)
		removes(t, w.h, "no selector", w.bag, selector, api.ErrLookup)
	}
	// What a dictionary should not hold is not removed, but for an object.
	for _, selector := range []api.Word{0, num(0), w.s[0]} {
		store(t, w.h, w.pairDict, 2, selector)
		removes(t, w.h, "no selector, though it is there", w.pair, selector, api.ErrLookup)
	}
	store(t, w.h, w.pairDict, 2, w.array)
	removes(t, w.h, "an array", w.pair, w.array, api.OK)
	becomes(t, w.h, "an array", w.pairDict, w.s[0], w.s[0], w.s[0], w.s[0], w.three, w.plain, w.s[0], w.s[0])
}

func TestInstallAndRemoveInARing(t *testing.T) {
	w := newWorld(t, 1024)
	store(t, w.h, w.thing, 0, w.triple)
	installs(t, w.h, "in a ring", w.pair, w.four, w.second, api.OK)
	finds(t, w.h, w.thing, w.four, w.second)
	installs(t, w.h, "in a ring", w.triple, w.four, w.third, api.OK)
	finds(t, w.h, w.thing, w.four, w.third)
	removes(t, w.h, "in a ring", w.triple, w.one, api.ErrLookup)
	removes(t, w.h, "in a ring", w.triple, w.four, api.OK)
	removes(t, w.h, "in a ring", w.pair, w.four, api.OK)
	finds(t, w.h, w.thing, w.four, 0)
	store(t, w.h, w.bag, 0, w.bag)
	installs(t, w.h, "its own superclass", w.bag, w.four, w.plain, api.OK)
	removes(t, w.h, "its own superclass", w.bag, w.four, api.OK)
}

// Without a Root all specials are 0: an object whose class is 0 is a class, an array and a method.
func TestInstallWithoutRoot(t *testing.T) {
	h := made(t, 256)
	dict := put(t, h, 0, num(1), num(2), num(0), num(4))
	top := put(t, h, 0, 0, dict, num(3), num(1))
	store(t, h, top, 0, top)
	array, selector := put(t, h, 0), put(t, h, num(0))
	method := write(t, h, 0, api.Method{Stack: 1, Code: []api.Instr{in(4, 2), in(17)}})
	beyond := write(t, h, 0, api.Method{Stack: 1, Code: []api.Instr{in(4, 3), in(17)}})
	installs(t, h, "an array", top, array, method, api.ErrArg)
	installs(t, h, "a field that is not there", top, selector, beyond, api.ErrMethod)
	installs(t, h, "a selector", top, selector, method, api.OK)
	grown := field(t, h, top, 1)
	becomes(t, h, "a new dictionary", grown, num(1), num(2), num(0), num(4), selector, method)
	finds(t, h, top, selector, method)
	removes(t, h, "a selector", top, selector, api.OK)
	becomes(t, h, "Nil is 0", grown, num(1), num(2), num(0), num(4), 0, 0)
	installs(t, h, "a hole", top, selector, method, api.OK)
	becomes(t, h, "a hole", grown, num(1), num(2), num(0), num(4), selector, method)
	if e := class.Fit(h); e != api.ErrImage {
		t.Errorf("Fit = %d", e)
	}
}

func TestHolesWhereNilIsAnInteger(t *testing.T) {
	w := newWorld(t, 1024)
	store(t, w.h, w.root, 0, num(9))
	for _, c := range []api.Word{w.thing, w.pair} {
		store(t, w.h, c, 0, num(9))
	}
	// The object that was Nil is a selector now.
	installs(t, w.h, "what was Nil", w.pair, w.s[0], w.second, api.OK)
	becomes(t, w.h, "what was Nil", w.pairDict, w.s[0], w.second, w.two, w.second, w.three, w.plain, w.s[0], w.s[0])
	removes(t, w.h, "three", w.pair, w.three, api.OK)
	becomes(t, w.h, "three", w.pairDict, w.s[0], w.second, w.two, w.second, num(9), num(9), w.s[0], w.s[0])
	installs(t, w.h, "four", w.pair, w.four, w.second, api.OK)
	becomes(t, w.h, "four", w.pairDict, w.s[0], w.second, w.two, w.second, w.four, w.second, w.s[0], w.s[0])
}
