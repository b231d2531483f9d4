package class_test

import (
	"math"
	"slices"
	"testing"

	"tappet/api"
	"tappet/class"
	"tappet/heap"
)

// outside are indices of no special.
var outside = []int{math.MinInt, -21, -20, -1, 20, 21, 63, 1 << 20, 1 << 32, math.MaxInt}

// P7.1: Special

func TestSpecial(t *testing.T) {
	w := newWorld(t, 1024)
	unchanged(t, w.h, "Special", func() {
		for k, want := range w.s {
			if x := class.Special(w.h, k); x != want {
				t.Errorf("Special(%d) = %d, want %d", k, x, want)
			}
		}
		for _, k := range outside {
			if x := class.Special(w.h, k); x != 0 {
				t.Errorf("Special(%d) = %d, want 0", k, x)
			}
		}
	})
}

func TestSpecialOfAnyRoot(t *testing.T) {
	for _, size := range []int{0, 1, 2, 7, 18, 19, 20, 21, 22, 512} {
		h := made(t, 1024)
		put(t, h, 0, num(1000))
		var l []api.Word
		for k := range size {
			l = append(l, []api.Word{num(k), 0, ref(1), num(least), num(greatest)}[k%5])
		}
		root := put(t, h, num(3), l...)
		put(t, h, 0, num(2000), num(2001))
		for k := range 25 {
			if x := class.Special(h, k); x != 0 {
				t.Errorf("no Root: Special(%d) = %d", k, x)
			}
		}
		h.SetRoot(root)
		for k := range 25 {
			want := api.Word(0)
			if k < size && k < 20 {
				want = l[k]
			}
			if x := class.Special(h, k); x != want {
				t.Errorf("a Root with %d fields: Special(%d) = %d, want %d", size, k, x, want)
			}
		}
		for _, k := range outside {
			if x := class.Special(h, k); x != 0 {
				t.Errorf("a Root with %d fields: Special(%d) = %d, want 0", size, k, x)
			}
		}
	}
}

// P7.1: Of

func TestOf(t *testing.T) {
	w := newWorld(t, 1024)
	unchanged(t, w.h, "Of", func() {
		for _, n := range []int{0, 1, -1, 2, greatest, least} {
			if c := class.Of(w.h, num(n)); c != w.s[3] {
				t.Errorf("Of(the integer %d) = %d, want %d", n, c, w.s[3])
			}
		}
		for k, x := range w.h.Objects() {
			if c := class.Of(w.h, x); c != w.h.Dump()[k].Class {
				t.Errorf("Of(%d) = %d, want %d", x, c, w.h.Dump()[k].Class)
			}
		}
		for _, x := range noObjects(w.h) {
			if c := class.Of(w.h, x); x%2 == 0 && c != 0 {
				t.Errorf("Of(%d) = %d, want 0", x, c)
			}
		}
	})
	for _, c := range []struct{ of, want api.Word }{
		{w.instance, w.pair}, {w.filled, w.bag}, {w.pair, w.s[7]}, {w.s[7], w.s[7]}, {w.plain, w.s[5]}, {w.root, w.s[8]},
	} {
		if x := class.Of(w.h, c.of); x != c.want {
			t.Errorf("Of(%d) = %d, want %d", c.of, x, c.want)
		}
	}
}

func TestOfWithoutSpecials(t *testing.T) {
	h := made(t, 64)
	a := put(t, h, 0)
	b := put(t, h, num(7), num(1), num(2), num(3), a)
	for _, c := range []struct{ of, want api.Word }{{a, 0}, {b, num(7)}, {num(5), 0}, {0, 0}, {ref(5), 0}} {
		if x := class.Of(h, c.of); x != c.want {
			t.Errorf("no Root: Of(%d) = %d, want %d", c.of, x, c.want)
		}
	}
	h.SetRoot(b)
	if x := class.Of(h, num(5)); x != a {
		t.Errorf("Of an integer = %d, want field 3 of the Root", x)
	}
}

// P7.1: Is and Fields

func TestIs(t *testing.T) {
	w := newWorld(t, 1024)
	classes := append(slices.Clone(w.s[3:9]), w.thing, w.pair, w.triple, w.bag)
	unchanged(t, w.h, "Is", func() {
		for _, x := range words(w.h) {
			if is := class.Is(w.h, x); is != slices.Contains(classes, x) {
				t.Errorf("Is(%d) = %v", x, is)
			}
		}
	})
}

func TestFields(t *testing.T) {
	w := newWorld(t, 1024)
	want := map[api.Word]int{w.s[4]: 6, w.s[6]: 3, w.pair: 2, w.triple: 3, w.bag: 1}
	unchanged(t, w.h, "Fields", func() {
		// All others have none: classes without named fields, ClassClass and ClassMethod, and what is no class.
		for _, x := range words(w.h) {
			if n := class.Fields(w.h, x); n != want[x] {
				t.Errorf("Fields(%d) = %d, want %d", x, n, want[x])
			}
		}
	})
	store(t, w.h, w.triple, 2, num(64))
	if n := class.Fields(w.h, w.triple); n != 64 {
		t.Errorf("Fields of the greatest class = %d", n)
	}
	store(t, w.h, w.triple, 2, num(65))
	if n := class.Fields(w.h, w.triple); n != 0 {
		t.Errorf("Fields of a class that is none = %d", n)
	}
}

func TestIsByEachField(t *testing.T) {
	w := newWorld(t, 1024)
	odd := put(t, w.h, w.s[8], w.one, w.plain, w.two)
	even := put(t, w.h, w.s[8], num(0), 0, 0, num(0))
	single := put(t, w.h, w.s[8], w.s[0])
	noClass := put(t, w.h, w.s[7])
	rows := []struct {
		what string
		k    int
		v    api.Word
		want bool
	}{
		{"the superclass is Nil", 0, w.s[0], true},
		{"the superclass is a class", 0, w.pair, true},
		{"the superclass is itself", 0, w.triple, true},
		{"the superclass is ClassClass", 0, w.s[7], true},
		{"the superclass is of ClassClass, but no class", 0, noClass, true},
		{"the superclass is the word 0", 0, 0, false},
		{"the superclass is an integer", 0, num(0), false},
		{"the superclass is an instance", 0, w.instance, false},
		{"the superclass is an array", 0, w.array, false},
		{"the superclass is True", 0, w.s[1], false},
		{"the superclass is the Root", 0, w.root, false},
		{"the dictionary is Nil", 1, w.s[0], true},
		{"the dictionary has no fields", 1, w.array, true},
		{"the dictionary has pairs", 1, w.thingDict, true},
		{"the dictionary has anything in its fields", 1, even, true},
		{"the dictionary is the Root", 1, w.root, true},
		{"the dictionary has an odd number of fields", 1, odd, false},
		{"the dictionary has one field", 1, single, false},
		{"the dictionary is the word 0", 1, 0, false},
		{"the dictionary is an integer", 1, num(0), false},
		{"the dictionary is an instance with two fields", 1, w.instance, false},
		{"the dictionary is a class", 1, w.pair, false},
		{"the dictionary is False", 1, w.s[2], false},
		{"field 2 is -1", 2, num(-1), false},
		{"field 2 is 0", 2, num(0), true},
		{"field 2 is 1", 2, num(1), true},
		{"field 2 is 64", 2, num(64), true},
		{"field 2 is 65", 2, num(65), false},
		{"field 2 is the least", 2, num(least), false},
		{"field 2 is the greatest", 2, num(greatest), false},
		{"field 2 is 2^32", 2, num(1 << 32), false},
		{"field 2 is the word 0", 2, 0, false},
		{"field 2 is Nil", 2, w.s[0], false},
		{"field 3 is -1", 3, num(-1), false},
		{"field 3 is 0", 3, num(0), true},
		{"field 3 is 1", 3, num(1), true},
		{"field 3 is 2", 3, num(2), false},
		{"field 3 is the least", 3, num(least), false},
		{"field 3 is 2^32 + 1", 3, num(1<<32 + 1), false},
		{"field 3 is the word 0", 3, 0, false},
		{"field 3 is True", 3, w.s[1], false},
	}
	for _, r := range rows {
		before := field(t, w.h, w.triple, r.k)
		store(t, w.h, w.triple, r.k, r.v)
		if is := class.Is(w.h, w.triple); is != r.want {
			t.Errorf("%s: Is = %v", r.what, is)
		}
		want := 0
		if n := field(t, w.h, w.triple, 2); r.want {
			want = int(n) / 2
		}
		if n := class.Fields(w.h, w.triple); n != want {
			t.Errorf("%s: Fields = %d, want %d", r.what, n, want)
		}
		store(t, w.h, w.triple, r.k, before)
	}
}

func TestIsBySize(t *testing.T) {
	for size := range 9 {
		w := newWorld(t, 1024)
		x := put(t, w.h, w.s[7], []api.Word{w.s[0], w.s[0], num(0), num(0), num(0), w.s[0], w.s[0], num(0), num(0)}[:size]...)
		if is := class.Is(w.h, x); is != (size == 4) {
			t.Errorf("an object with %d fields: Is = %v", size, is)
		}
	}
}

func TestIsByClass(t *testing.T) {
	w := newWorld(t, 1024)
	for _, c := range append(words(w.h), w.s[7]) {
		if w.h.SetClass(w.triple, c) != api.OK {
			continue
		}
		if is := class.Is(w.h, w.triple); is != (c == w.s[7]) {
			t.Errorf("an object of %d: Is = %v", c, is)
		}
	}
}

func TestIsWithoutRoot(t *testing.T) {
	h := made(t, 128)
	dict := put(t, h, 0, num(1), num(2))
	top := put(t, h, 0, 0, dict, num(3), num(1))
	store(t, h, top, 0, top)
	below := put(t, h, 0, top, dict, num(4), num(0))
	// All objects whose class is 0 are of ClassClass, and of ClassArray.
	for x, want := range map[api.Word]bool{dict: false, top: true, below: true} {
		if is := class.Is(h, x); is != want {
			t.Errorf("Is(%d) = %v", x, is)
		}
	}
	// No Fields can be told: both ClassClass and ClassMethod are 0, which these are not.
	if class.Fields(h, top) != 3 || class.Fields(h, below) != 4 {
		t.Errorf("Fields = %d and %d", class.Fields(h, top), class.Fields(h, below))
	}
	for k := range 2 {
		before := field(t, h, below, k)
		store(t, h, below, k, 0)
		if class.Is(h, below) {
			t.Errorf("Nil is 0, and field %d is the word 0: Is", k)
		}
		store(t, h, below, k, before)
	}
	reclass(t, h, below, num(0))
	if class.Is(h, below) {
		t.Errorf("an object of another class: Is")
	}
}

func TestIsWhereNilIsNoObject(t *testing.T) {
	w := newWorld(t, 1024)
	for _, none := range []api.Word{0, num(0), num(12)} {
		store(t, w.h, w.root, 0, none)
		for k := range 2 {
			set(t, w.h, w.triple, w.pair, w.pairDict)
			if !class.Is(w.h, w.triple) {
				t.Errorf("Nil is %d: Is not", none)
			}
			store(t, w.h, w.triple, k, none)
			if is := class.Is(w.h, w.triple); is != (none != 0) {
				t.Errorf("Nil is %d, and so is field %d: Is = %v", none, k, is)
			}
			store(t, w.h, w.triple, k, w.s[0])
			if class.Is(w.h, w.triple) {
				t.Errorf("Nil is %d, and field %d another object: Is", none, k)
			}
		}
	}
}

// P7.2: Lookup

// finds looks up what has to be found; 0: it must not be.
func finds(t *testing.T, h *heap.Heap, c, selector, want api.Word) {
	t.Helper()
	e := api.OK
	if want == 0 {
		e = api.ErrLookup
	}
	unchanged(t, h, "Lookup", func() {
		if x, f := class.Lookup(h, c, selector); x != want || f != e {
			t.Errorf("Lookup(%d, %d) = %d, %d, want %d, %d", c, selector, x, f, want, e)
		}
	})
}

func TestLookup(t *testing.T) {
	w := newWorld(t, 1024)
	rows := []struct{ class, one, two, three, four api.Word }{
		{w.thing, w.plain, w.pushing, 0, 0},
		{w.pair, w.plain, w.second, w.plain, 0},
		{w.triple, w.plain, w.second, w.plain, 0},
		{w.bag, w.plain, w.pushing, 0, 0},
		{w.s[5], w.plain, w.pushing, 0, 0},
		{w.s[3], w.plain, w.pushing, 0, 0},
	}
	for _, r := range rows {
		finds(t, w.h, r.class, w.one, r.one)
		finds(t, w.h, r.class, w.two, r.two)
		finds(t, w.h, r.class, w.three, r.three)
		finds(t, w.h, r.class, w.four, r.four)
	}
}

func TestLookupOfNoSelector(t *testing.T) {
	w := newWorld(t, 1024)
	bad := append(noObjects(w.h), w.s[0])
	for _, selector := range bad {
		finds(t, w.h, w.triple, selector, 0)
	}
	// It is not found even where it is.
	for _, selector := range []api.Word{0, num(0), num(greatest), w.s[0]} {
		set(t, w.h, w.thingDict, selector, w.plain, selector, w.plain)
		finds(t, w.h, w.thing, selector, 0)
	}
	// A method, a class or an array is found as any other object.
	for _, selector := range []api.Word{w.plain, w.thing, w.array, w.root, w.thingDict, w.s[1]} {
		set(t, w.h, w.thingDict, w.one, w.plain, selector, w.second)
		finds(t, w.h, w.thing, selector, w.second)
	}
}

func TestLookupInNoClass(t *testing.T) {
	w := newWorld(t, 1024)
	for _, x := range words(w.h) {
		if !class.Is(w.h, x) {
			finds(t, w.h, x, w.one, 0)
		}
	}
}

func TestLookupUpToNoClass(t *testing.T) {
	for k, v := range map[int]api.Word{2: num(65), 3: num(2), 1: num(0), 0: 0} {
		w := newWorld(t, 1024)
		finds(t, w.h, w.triple, w.one, w.plain)
		store(t, w.h, w.pair, k, v)
		finds(t, w.h, w.triple, w.one, 0)
		finds(t, w.h, w.triple, w.two, 0)
		finds(t, w.h, w.thing, w.one, w.plain)
	}
}

func TestLookupInTheFirstPair(t *testing.T) {
	w := newWorld(t, 1024)
	dict := put(t, w.h, w.s[8], w.s[0], w.plain, w.four, w.one, w.two, w.third, w.four, w.plain, w.two, w.second)
	store(t, w.h, w.triple, 1, dict)
	finds(t, w.h, w.triple, w.four, w.one)
	finds(t, w.h, w.triple, w.two, w.third)
	// A method is no selector: only each second word is looked at.
	finds(t, w.h, w.triple, w.third, 0)
	finds(t, w.h, w.triple, w.plain, 0)
}

func TestLookupAnswersAnyWord(t *testing.T) {
	w := newWorld(t, 1024)
	for _, x := range []api.Word{num(greatest), num(-1), w.s[0], w.root, w.array, w.one} {
		store(t, w.h, w.pairDict, 3, x)
		finds(t, w.h, w.triple, w.two, x)
	}
	store(t, w.h, w.pairDict, 3, 0)
	if x, e := class.Lookup(w.h, w.triple, w.two); x != 0 || e != api.OK {
		t.Errorf("Lookup of what stands for the word 0 = %d, %d", x, e)
	}
}

func TestLookupInARing(t *testing.T) {
	for _, words := range []int{1024, 65536} {
		w := newWorld(t, words)
		store(t, w.h, w.thing, 0, w.triple)
		for _, c := range []api.Word{w.thing, w.pair, w.triple, w.bag} {
			finds(t, w.h, c, w.one, w.plain)
			finds(t, w.h, c, w.three, w.plain)
			finds(t, w.h, c, w.four, 0)
			finds(t, w.h, c, w.s[9], 0)
		}
		store(t, w.h, w.bag, 0, w.bag)
		finds(t, w.h, w.bag, w.one, 0)
	}
}

func TestLookupThroughAllObjects(t *testing.T) {
	// As many classes as there can be, so that the last one is met only after all others.
	h := made(t, 65536)
	root := put(t, h, 0, slices.Repeat([]api.Word{0}, 20)...)
	h.SetRoot(root)
	none, all, array, selector := put(t, h, 0), put(t, h, 0), put(t, h, 0), put(t, h, 0)
	set(t, h, root, none, 0, 0, 0, 0, 0, 0, all, array)
	dict := put(t, h, array, selector, num(77))
	last := put(t, h, all, none, dict, num(0), num(0))
	top := last
	for h.Used()+7 <= h.Words() {
		last = put(t, h, all, last, none, num(0), num(0))
	}
	finds(t, h, last, selector, num(77))
	if x, ok := class.Above(h, last, num(77)); x != none || !ok {
		t.Errorf("Above = %d, %v", x, ok)
	}
	store(t, h, top, 0, last)
	finds(t, h, last, selector, num(77))
	finds(t, h, last, array, 0)
}

// P7.2: Above

func TestAbove(t *testing.T) {
	w := newWorld(t, 1024)
	rows := []struct {
		class, method, want api.Word
		ok                  bool
	}{
		{w.thing, w.plain, w.s[0], true},
		{w.thing, w.pushing, w.s[0], true},
		{w.thing, w.second, 0, false},
		{w.pair, w.plain, w.thing, true},
		{w.pair, w.second, w.thing, true},
		{w.pair, w.pushing, w.s[0], true},
		{w.triple, w.plain, w.thing, true},
		{w.triple, w.second, w.thing, true},
		{w.triple, w.pushing, w.s[0], true},
		{w.triple, w.third, 0, false},
		{w.triple, w.block, 0, false},
		{w.triple, w.one, 0, false},
		{w.triple, w.s[0], 0, false},
		{w.triple, 0, 0, false},
		{w.triple, num(0), 0, false},
		{w.triple, ref(w.h.Used()), 0, false},
		{w.bag, w.plain, w.s[0], true},
		{w.bag, w.second, 0, false},
		{w.s[5], w.plain, w.thing, true},
		{w.s[0], w.plain, 0, false},
		{w.plain, w.plain, 0, false},
		{0, w.plain, 0, false},
		{num(0), w.plain, 0, false},
	}
	unchanged(t, w.h, "Above", func() {
		for _, r := range rows {
			if x, ok := class.Above(w.h, r.class, r.method); x != r.want || ok != r.ok {
				t.Errorf("Above(%d, %d) = %d, %v, want %d, %v", r.class, r.method, x, ok, r.want, r.ok)
			}
		}
	})
}

func TestAboveOfAHole(t *testing.T) {
	w := newWorld(t, 1024)
	store(t, w.h, w.pairDict, 1, w.third)
	if x, ok := class.Above(w.h, w.triple, w.third); x != 0 || ok {
		t.Errorf("a method in a hole: Above = %d, %v", x, ok)
	}
	store(t, w.h, w.pairDict, 6, w.four)
	store(t, w.h, w.pairDict, 7, w.third)
	if x, ok := class.Above(w.h, w.triple, w.third); x != w.thing || !ok {
		t.Errorf("the same method in a pair behind it: Above = %d, %v", x, ok)
	}
}

func TestAboveOfAnyWord(t *testing.T) {
	w := newWorld(t, 1024)
	for _, x := range []api.Word{0, num(3), w.s[0], w.one, w.root} {
		store(t, w.h, w.pairDict, 3, x)
		if y, ok := class.Above(w.h, w.triple, x); y != w.thing || !ok {
			t.Errorf("Above(%d) = %d, %v", x, y, ok)
		}
	}
}

func TestAboveInARing(t *testing.T) {
	w := newWorld(t, 1024)
	store(t, w.h, w.thing, 0, w.triple)
	if x, ok := class.Above(w.h, w.bag, w.second); x != w.thing || !ok {
		t.Errorf("round the ring: Above = %d, %v", x, ok)
	}
	if x, ok := class.Above(w.h, w.bag, w.plain); x != w.triple || !ok {
		t.Errorf("in a ring: Above = %d, %v", x, ok)
	}
	if x, ok := class.Above(w.h, w.bag, w.third); x != 0 || ok {
		t.Errorf("not in the ring: Above = %d, %v", x, ok)
	}
}

func TestAboveUpToNoClass(t *testing.T) {
	w := newWorld(t, 1024)
	store(t, w.h, w.pair, 3, num(2))
	for _, m := range []api.Word{w.second, w.plain, w.pushing} {
		if x, ok := class.Above(w.h, w.triple, m); x != 0 || ok {
			t.Errorf("Above(%d) = %d, %v", m, x, ok)
		}
	}
}

// P1

func TestNoHeap(t *testing.T) {
	for name, h := range noHeaps() {
		for _, x := range append(words(h), ref(1), ref(6)) {
			if class.Special(h, int(x)) != 0 || class.Of(h, x) != 0 || class.Is(h, x) || class.Fields(h, x) != 0 {
				t.Errorf("%s heap: something is %d", name, x)
			}
			if y, e := class.Lookup(h, x, x); y != 0 || e != api.ErrLookup {
				t.Errorf("%s heap: Lookup = %d, %d", name, y, e)
			}
			if y, ok := class.Above(h, x, x); y != 0 || ok {
				t.Errorf("%s heap: Above = %d, %v", name, y, ok)
			}
			if e := class.Install(h, x, x, x); e != api.ErrArg {
				t.Errorf("%s heap: Install = %d", name, e)
			}
			if e := class.Remove(h, x, x); e != api.ErrArg {
				t.Errorf("%s heap: Remove = %d", name, e)
			}
		}
		if e := class.Fit(h); e != api.ErrImage {
			t.Errorf("%s heap: Fit = %d", name, e)
		}
	}
}
