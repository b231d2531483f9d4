package class_test

import (
	"errors"
	"fmt"
	"slices"
	"strings"
	"testing"

	"tappet/api"
	"tappet/class"
	"tappet/code"
)

// P7.5

func TestFit(t *testing.T) {
	w := newWorld(t, 1024)
	fit(t, w.h, "the world")
	if err := class.Reason(w.h); err != nil {
		t.Errorf("a reason, though the heap is runnable: %v", err)
	}
}

// changing is what spoils a world, or what does not.
type changing struct {
	what string
	do   func(t *testing.T, w *world)
}

// storing lets a field be another word.
func storing(what string, k int, words func(w *world) (api.Word, api.Word)) changing {
	return changing{what, func(t *testing.T, w *world) {
		x, v := words(w)
		store(t, w.h, x, k, v)
	}}
}

func TestFitStill(t *testing.T) {
	rows := []changing{
		storing("Active is Nil", 19, func(w *world) (api.Word, api.Word) { return w.root, w.s[0] }),
		storing("Active is another context", 19, func(w *world) (api.Word, api.Word) { return w.root, put6(w) }),
		storing("a context with any words in it", 1, func(w *world) (api.Word, api.Word) { return w.active, w.s[2] }),
		storing("a class with 64 fields", 2, func(w *world) (api.Word, api.Word) { return w.triple, num(64) }),
		storing("a class that may have more fields", 3, func(w *world) (api.Word, api.Word) { return w.pair, num(1) }),
		storing("a class with as many fields as its superclass", 2, func(w *world) (api.Word, api.Word) { return w.triple, num(2) }),
		storing("ClassClass is below nothing", 0, func(w *world) (api.Word, api.Word) { return w.s[7], w.s[0] }),
		storing("ClassMethod is below ClassArray, without fields", 0, func(w *world) (api.Word, api.Word) { return w.s[5], w.s[8] }),
		storing("ClassContext is below ClassMethod", 0, func(w *world) (api.Word, api.Word) { return w.s[4], w.s[5] }),
		storing("ClassBlock is below a class with fields", 0, func(w *world) (api.Word, api.Word) { return w.s[6], w.triple }),
		storing("ClassContext is below ClassClass", 0, func(w *world) (api.Word, api.Word) { return w.s[4], w.s[7] }),
		storing("True is asked for as a special twice by a field", 1, func(w *world) (api.Word, api.Word) { return w.filled, w.s[1] }),
		{"a dictionary without fields", func(t *testing.T, w *world) { store(t, w.h, w.bag, 1, put(t, w.h, w.s[8])) }},
		{"a dictionary of holes", func(t *testing.T, w *world) {
			store(t, w.h, w.bag, 1, put(t, w.h, w.s[8], w.s[0], w.s[0], w.s[0], w.s[0]))
		}},
		{"a selector that is an array", func(t *testing.T, w *world) { store(t, w.h, w.pairDict, 2, w.array) }},
		{"a selector that is a class", func(t *testing.T, w *world) { store(t, w.h, w.pairDict, 2, w.pair) }},
		{"a selector that is its own method", func(t *testing.T, w *world) { store(t, w.h, w.pairDict, 2, w.second) }},
		{"a dictionary that nothing leads to any more", func(t *testing.T, w *world) { store(t, w.h, w.pair, 1, w.s[0]) }},
		{"a dictionary that nothing leads to any more, and is led to", func(t *testing.T, w *world) {
			store(t, w.h, w.pair, 1, w.s[0])
			store(t, w.h, w.filled, 1, w.pairDict)
			store(t, w.h, w.filled, 2, w.pairDict)
		}},
		{"a method of ClassMethod that does not verify, in no dictionary", func(t *testing.T, w *world) {
			write(t, w.h, w.s[5], api.Method{Code: []api.Instr{in(10)}})
		}},
		{"True is a class", func(t *testing.T, w *world) { store(t, w.h, w.root, 1, w.bag) }},
		{"True is a context", func(t *testing.T, w *world) { store(t, w.h, w.root, 1, w.active) }},
		{"Nil is a method", func(t *testing.T, w *world) { w.replace(t, w.s[0], w.third) }},
		{"Nil is a context", func(t *testing.T, w *world) { w.replace(t, w.s[0], put6(w)) }},
		{"an array with anything", func(t *testing.T, w *world) {
			put(t, w.h, w.s[8], w.one, num(1), w.array, w.s[0], w.pair, w.plain)
		}},
		{"hashes", func(t *testing.T, w *world) { w.h.Hash(w.root); w.h.Hash(w.pairDict) }},
	}
	for _, r := range rows {
		w := newWorld(t, 1024)
		r.do(t, w)
		if l := modelOf(w.h).faults(); len(l) > 0 {
			t.Fatalf("%s: %v: the test is wrong", r.what, l)
		}
		fit(t, w.h, r.what)
	}
}

// put6 is a context.
func put6(w *world) api.Word {
	x, _ := w.h.Alloc(w.s[4], 6, w.s[0])
	return x
}

// spoiling is a change by which a heap is not runnable any more: which conditions do not hold then, and a piece of the reason that is told.
type spoiling struct {
	changing
	broken string
	reason string
}

// broken does all of the changes, each in a world of its own.
func broken(t *testing.T, rows []spoiling) {
	t.Helper()
	for _, r := range rows {
		w := newWorld(t, 1024)
		r.do(t, w)
		if l := fmt.Sprint(modelOf(w.h).faults()); l != "["+r.broken+"]" {
			t.Fatalf("%s: %s, want [%s]: the test is wrong", r.what, l, r.broken)
		}
		unchanged(t, w.h, "Fit", func() {
			if e := class.Fit(w.h); e != api.ErrImage {
				t.Errorf("%s: Fit = %d, want ErrImage", r.what, e)
			}
		})
		err := class.Reason(w.h)
		if !errors.Is(err, api.ErrImage) || !strings.Contains(err.Error(), r.reason) {
			t.Errorf("%s: the reason is %v, want %s", r.what, err, r.reason)
		}
	}
}

// row is a line of the tables below.
func row(what, broken, reason string, do func(t *testing.T, w *world)) spoiling {
	return spoiling{changing{what, do}, broken, reason}
}

const noRoot = "the Root is no array"

func TestUnfitByRoot(t *testing.T) {
	rows := []spoiling{
		row("the Root is of another class", "root", noRoot, func(t *testing.T, w *world) { reclass(t, w.h, w.root, w.bag) }),
		row("the Root has no class", "root", noRoot, func(t *testing.T, w *world) { reclass(t, w.h, w.root, 0) }),
		row("the Root is another object", "root", noRoot, func(t *testing.T, w *world) { w.h.SetRoot(w.thing) }),
		row("the Root is another array", "root", noRoot, func(t *testing.T, w *world) { w.h.SetRoot(w.array) }),
		row("no object leads to itself as the Root", "to the root", "leads to the Root", func(t *testing.T, w *world) {
			w.h.SetRoot(put(t, w.h, w.s[8], w.s[:]...))
			put(t, w.h, w.s[8], w.h.Root())
		}),
	}
	for _, size := range []int{0, 1, 8, 9, 18, 19, 21, 22, 40} {
		rows = append(rows, row(fmt.Sprintf("the Root has %d fields", size), "root", noRoot, func(t *testing.T, w *world) {
			l := append(slices.Clone(w.s[:]), slices.Repeat([]api.Word{w.s[0]}, 20)...)
			w.h.SetRoot(put(t, w.h, w.s[8], l[:size]...))
		}))
	}
	broken(t, rows)
	// The same with 20 fields is runnable.
	w := newWorld(t, 1024)
	w.h.SetRoot(put(t, w.h, w.s[8], w.s[:]...))
	fit(t, w.h, "another Root")
	if e := w.h.Load(w.h.Dump(), 0, 0); e != api.OK {
		t.Fatal(e)
	}
	if e := class.Fit(w.h); e != api.ErrImage {
		t.Errorf("no Root: Fit = %d", e)
	}
	if e := class.Fit(made(t, 64)); e != api.ErrImage {
		t.Errorf("no objects: Fit = %d", e)
	}
}

func TestUnfitBySpecials(t *testing.T) {
	const reason = "a special that is no object, or another one too"
	var rows []spoiling
	for k := range 19 {
		// Without ClassArray, the Root is not known to be an array.
		wrong, why := "special", reason
		if k == 8 {
			wrong, why = "root", noRoot
		}
		for _, v := range []api.Word{0, num(0), num(k)} {
			rows = append(rows, row(fmt.Sprintf("special %d is %d", k, v), wrong, why, func(t *testing.T, w *world) {
				store(t, w.h, w.root, k, v)
			}))
		}
		rows = append(rows, row(fmt.Sprintf("special %d is no object any more", k), wrong, why, func(t *testing.T, w *world) {
			store(t, w.h, w.root, k, num(int(w.s[k])))
		}))
		for i := range 19 {
			if i == k {
				continue
			}
			rows = append(rows, row(fmt.Sprintf("special %d is special %d too", k, i), wrong, why, func(t *testing.T, w *world) {
				store(t, w.h, w.root, k, w.s[i])
			}))
		}
	}
	broken(t, rows)
}

func TestUnfitByShapes(t *testing.T) {
	const reason = "with other fields than it has to have"
	var rows []spoiling
	for k, says := range map[int][2]int{3: {0, 0}, 4: {6, 1}, 5: {5, 1}, 6: {3, 0}, 7: {4, 0}, 8: {0, 1}} {
		what := fmt.Sprintf("special class %d", k)
		for n := range 8 {
			if n == says[0] {
				continue
			}
			rows = append(rows, row(fmt.Sprintf("%s asks for %d fields", what, n), "shape", reason, func(t *testing.T, w *world) {
				store(t, w.h, w.s[k], 2, num(n))
			}))
		}
		rows = append(rows, row(what+" has another field 3", "shape", reason, func(t *testing.T, w *world) {
			store(t, w.h, w.s[k], 3, num(1-says[1]))
		}))
		rows = append(rows, row(what+" is no class", "shape", reason, func(t *testing.T, w *world) {
			store(t, w.h, w.s[k], 3, num(2))
		}))
		rows = append(rows, row(what+" has no field 2", "shape", reason, func(t *testing.T, w *world) {
			store(t, w.h, w.s[k], 2, num(65))
		}))
		if k != 7 && k != 8 {
			rows = append(rows, row(what+" is another object", "shape", reason, func(t *testing.T, w *world) {
				store(t, w.h, w.root, k, w.four)
			}))
		}
	}
	for _, r := range rows {
		w := newWorld(t, 1024)
		r.do(t, w)
		if l := modelOf(w.h).faults(); !slices.Contains(l, r.broken) {
			t.Fatalf("%s: %v, want %s: the test is wrong", r.what, l, r.broken)
		}
		if err := class.Reason(w.h); class.Fit(w.h) != api.ErrImage || !strings.Contains(err.Error(), r.reason) {
			t.Errorf("%s: Fit = %d, %v", r.what, class.Fit(w.h), err)
		}
	}
	// With nothing of their own kind beside them, these break no other condition.
	broken(t, []spoiling{
		row("ClassInt asks for a field", "shape", reason, func(t *testing.T, w *world) { store(t, w.h, w.s[3], 2, num(1)) }),
		row("ClassInt permits more fields", "shape", reason, func(t *testing.T, w *world) { store(t, w.h, w.s[3], 3, num(1)) }),
		row("ClassInt is another class", "shape", reason, func(t *testing.T, w *world) { store(t, w.h, w.root, 3, w.bag) }),
		row("ClassContext asks for five fields", "shape", reason, func(t *testing.T, w *world) { store(t, w.h, w.s[4], 2, num(5)) }),
		row("ClassContext permits no more fields", "shape", reason, func(t *testing.T, w *world) { store(t, w.h, w.s[4], 3, num(0)) }),
		row("ClassMethod asks for four fields", "shape", reason, func(t *testing.T, w *world) { store(t, w.h, w.s[5], 2, num(4)) }),
		row("ClassMethod asks for six fields", "shape", reason, func(t *testing.T, w *world) { store(t, w.h, w.s[5], 2, num(6)) }),
		row("ClassBlock permits more fields", "shape", reason, func(t *testing.T, w *world) { store(t, w.h, w.s[6], 3, num(1)) }),
		row("ClassClass permits more fields", "shape", reason, func(t *testing.T, w *world) { store(t, w.h, w.s[7], 3, num(1)) }),
	})
}

func TestUnfitByActive(t *testing.T) {
	const reason = "what is active is no context"
	var rows []spoiling
	for what, v := range map[string]func(w *world) api.Word{
		"an instance": func(w *world) api.Word { return w.instance },
		"an integer":  func(w *world) api.Word { return num(0) },
		"an array":    func(w *world) api.Word { return w.array },
		"True":        func(w *world) api.Word { return w.s[1] },
		"a class":     func(w *world) api.Word { return w.s[4] },
		"a method":    func(w *world) api.Word { return w.plain },
	} {
		rows = append(rows, row("Active is "+what, "active", reason, func(t *testing.T, w *world) {
			store(t, w.h, w.root, 19, v(w))
		}))
	}
	rows = append(rows, row("Active is the word 0", "active zero", reason, func(t *testing.T, w *world) {
		store(t, w.h, w.root, 19, 0)
	}))
	rows = append(rows, row("Active is a context no more", "active", reason, func(t *testing.T, w *world) {
		reclass(t, w.h, w.active, w.s[8])
	}))
	broken(t, rows)
}

func TestUnfitByObjects(t *testing.T) {
	const toRoot, zero, of, size = "leads to the Root", "a field is the word 0", "the class of an object is none", "other fields than its class says"
	withFields := func(k int) func(t *testing.T, w *world) {
		return func(t *testing.T, w *world) {
			put(t, w.h, w.pair, slices.Repeat([]api.Word{num(0)}, k)...)
		}
	}
	broken(t, []spoiling{
		row("a field leads to the Root", "to the root", toRoot, func(t *testing.T, w *world) { store(t, w.h, w.filled, 1, w.root) }),
		row("a field that is not named leads to the Root", "to the root", toRoot, func(t *testing.T, w *world) { put(t, w.h, w.s[8], num(0), w.root) }),
		row("a field of a method leads to the Root", "to the root", toRoot, func(t *testing.T, w *world) {
			write(t, w.h, w.s[5], api.Method{Stack: 1, Lits: []api.Word{w.root}, Code: []api.Instr{in(3), in(17)}})
		}),
		row("Active is the Root", "active to the root", "what is active is no context", func(t *testing.T, w *world) { store(t, w.h, w.root, 19, w.root) }),
		row("a selector is the Root", "to the root", toRoot, func(t *testing.T, w *world) { store(t, w.h, w.pairDict, 2, w.root) }),
		row("a class is the Root", "class to the root", toRoot, func(t *testing.T, w *world) { reclass(t, w.h, w.one, w.root) }),
		row("a dictionary is the Root", "dictionary hole installed to the root", toRoot, func(t *testing.T, w *world) { store(t, w.h, w.bag, 1, w.root) }),
		row("a field is the word 0", "zero", zero, func(t *testing.T, w *world) { store(t, w.h, w.instance, 0, 0) }),
		row("a last field is the word 0", "zero", zero, func(t *testing.T, w *world) { store(t, w.h, w.filled, 2, 0) }),
		row("a field of a context is the word 0", "zero", zero, func(t *testing.T, w *world) { store(t, w.h, w.active, 0, 0) }),
		row("a field of an array is the word 0", "zero", zero, func(t *testing.T, w *world) { put(t, w.h, w.s[8], num(0), 0, num(0)) }),
		row("a literal is the word 0", "zero", zero, func(t *testing.T, w *world) {
			write(t, w.h, w.s[5], api.Method{Stack: 1, Lits: []api.Word{0}, Code: []api.Instr{in(18)}})
		}),
		row("a class is the word 0", "class", of, func(t *testing.T, w *world) { reclass(t, w.h, w.one, 0) }),
		row("a class is an integer", "class", of, func(t *testing.T, w *world) { reclass(t, w.h, w.one, num(0)) }),
		row("a class is Nil", "class", of, func(t *testing.T, w *world) { reclass(t, w.h, w.one, w.s[0]) }),
		row("a class is an instance", "class", of, func(t *testing.T, w *world) { reclass(t, w.h, w.one, w.instance) }),
		row("a class is the object itself", "class", of, func(t *testing.T, w *world) { reclass(t, w.h, w.one, w.one) }),
		row("a class is a dictionary", "class dictionary", of, func(t *testing.T, w *world) { reclass(t, w.h, w.one, w.pairDict) }),
		row("no field where two are named", "size", size, withFields(0)),
		row("one field where two are named", "size", size, withFields(1)),
		row("three fields where two are named", "size", size, withFields(3)),
		row("many fields where two are named", "size", size, withFields(500)),
		row("no field where one is named, and more are permitted", "size", size, func(t *testing.T, w *world) { put(t, w.h, w.bag) }),
		row("a field where none is named", "size", size, func(t *testing.T, w *world) { put(t, w.h, w.thing, num(0)) }),
		row("a context with five fields", "size", size, func(t *testing.T, w *world) { put(t, w.h, w.s[4], slices.Repeat([]api.Word{w.s[0]}, 5)...) }),
		row("a block with two fields", "size", size, func(t *testing.T, w *world) { put(t, w.h, w.s[6], w.active, w.block) }),
		row("a block with four fields", "size", size, func(t *testing.T, w *world) {
			put(t, w.h, w.s[6], w.active, w.block, num(0), num(0))
		}),
		row("an integer that is an object", "size", size, func(t *testing.T, w *world) { put(t, w.h, w.s[3], num(0)) }),
		row("a class with three fields", "no class size", size, func(t *testing.T, w *world) { put(t, w.h, w.s[7], w.thing, w.s[0], num(0)) }),
		row("a class with five fields", "no class size", size, func(t *testing.T, w *world) {
			put(t, w.h, w.s[7], w.thing, w.s[0], num(0), num(0), num(0))
		}),
		row("a method with four fields", "no method size", size, func(t *testing.T, w *world) {
			put(t, w.h, w.s[5], num(0), num(0), num(0), num(0))
		}),
	})
}

func TestUnfitByClasses(t *testing.T) {
	const noClass, ring, fewer, above = "the class of classes is none", "superclasses in a ring", "fewer fields than its superclass", "a superclass of classes or methods with fields"
	// extra is a class that nothing is of.
	extra := func(super, dict func(w *world) api.Word, says ...api.Word) func(t *testing.T, w *world) {
		return func(t *testing.T, w *world) { put(t, w.h, w.s[7], super(w), dict(w), says[0], says[1]) }
	}
	thing := func(w *world) api.Word { return w.thing }
	none := func(w *world) api.Word { return w.s[0] }
	broken(t, []spoiling{
		row("field 2 at -1", "no class", noClass, extra(thing, none, num(-1), num(0))),
		row("field 2 at 65", "no class", noClass, extra(thing, none, num(65), num(0))),
		row("field 2 is no integer", "no class", noClass, func(t *testing.T, w *world) { put(t, w.h, w.s[7], w.thing, w.s[0], w.s[0], num(0)) }),
		row("field 3 at -1", "no class", noClass, extra(thing, none, num(0), num(-1))),
		row("field 3 at 2", "no class", noClass, extra(thing, none, num(0), num(2))),
		row("field 3 is True", "no class", noClass, func(t *testing.T, w *world) { put(t, w.h, w.s[7], w.thing, w.s[0], num(0), w.s[1]) }),
		row("a superclass is an integer", "no class", noClass, extra(func(w *world) api.Word { return num(0) }, none, num(0), num(0))),
		row("a superclass is an instance", "no class", noClass, extra(func(w *world) api.Word { return w.instance }, none, num(0), num(0))),
		row("a superclass is the word 0", "no class zero", "the word 0", extra(func(w *world) api.Word { return 0 }, none, num(0), num(0))),
		row("a dictionary is an integer", "no class", noClass, extra(thing, func(w *world) api.Word { return num(0) }, num(0), num(0))),
		row("a dictionary is a class", "no class", noClass, extra(thing, thing, num(0), num(0))),
		row("a dictionary is the word 0", "no class zero", "the word 0", extra(thing, func(w *world) api.Word { return 0 }, num(0), num(0))),
		row("a dictionary with one field", "no class", noClass, func(t *testing.T, w *world) {
			put(t, w.h, w.s[7], w.thing, put(t, w.h, w.s[8], w.s[0]), num(0), num(0))
		}),
		row("a dictionary with three fields", "no class", noClass, func(t *testing.T, w *world) {
			put(t, w.h, w.s[7], w.thing, put(t, w.h, w.s[8], w.one, w.plain, w.two), num(0), num(0))
		}),
		row("a class that is its own superclass", "ring", ring, func(t *testing.T, w *world) { store(t, w.h, w.triple, 0, w.triple) }),
		row("the uppermost class is its own superclass", "ring", ring, func(t *testing.T, w *world) { store(t, w.h, w.thing, 0, w.thing) }),
		row("two classes in a ring", "ring", ring, func(t *testing.T, w *world) {
			store(t, w.h, w.triple, 2, num(2))
			store(t, w.h, w.pair, 0, w.triple)
		}),
		row("a ring with fewer fields somewhere", "fewer ring", ring, func(t *testing.T, w *world) { store(t, w.h, w.pair, 0, w.triple) }),
		row("a ring of all", "ring", ring, func(t *testing.T, w *world) {
			array := w.s[8]
			store(t, w.h, w.thing, 0, array)
		}),
		row("a class below a ring", "ring", ring, func(t *testing.T, w *world) {
			x := put(t, w.h, w.s[7], w.thing, w.s[0], num(5), num(0))
			y := put(t, w.h, w.s[7], x, w.s[0], num(5), num(0))
			put(t, w.h, w.s[7], y, w.s[0], num(7), num(0))
			store(t, w.h, x, 0, y)
		}),
		row("a class that is met ahead of the ring above it", "ring", ring, func(t *testing.T, w *world) {
			x := put(t, w.h, w.s[7], w.thing, w.s[0], num(2), num(0))
			y := put(t, w.h, w.s[7], x, w.s[0], num(2), num(0))
			store(t, w.h, x, 0, y)
			store(t, w.h, w.triple, 0, y)
		}),
		row("Nil is a class", "ring", ring, func(t *testing.T, w *world) {
			x := put(t, w.h, w.s[7], w.thing, w.s[0], num(0), num(0))
			w.replace(t, w.s[0], x)
			store(t, w.h, x, 0, x)
		}),
		row("one field fewer than the superclass", "fewer", fewer, extra(func(w *world) api.Word { return w.triple }, none, num(2), num(0))),
		row("no fields, but those of the superclass", "fewer", fewer, extra(func(w *world) api.Word { return w.bag }, none, num(0), num(1))),
		row("fewer than ClassContext", "fewer", fewer, extra(func(w *world) api.Word { return w.s[4] }, none, num(5), num(1))),
		row("fewer in the middle", "fewer", fewer, func(t *testing.T, w *world) {
			x := put(t, w.h, w.s[7], w.triple, w.s[0], num(2), num(0))
			put(t, w.h, w.s[7], x, w.s[0], num(3), num(0))
		}),
		row("a superclass of ClassClass with fields", "above", above, func(t *testing.T, w *world) { store(t, w.h, w.s[7], 0, w.bag) }),
		row("a superclass of ClassMethod with fields", "above", above, func(t *testing.T, w *world) { store(t, w.h, w.s[5], 0, w.pair) }),
		row("ClassMethod is below ClassClass", "above", above, func(t *testing.T, w *world) { store(t, w.h, w.s[5], 0, w.s[7]) }),
		row("ClassClass is below ClassBlock", "above", above, func(t *testing.T, w *world) { store(t, w.h, w.s[7], 0, w.s[6]) }),
		row("a superclass with fields further up", "above", above, func(t *testing.T, w *world) { store(t, w.h, w.s[5], 0, w.triple) }),
	})
}

func TestUnfitByDictionaries(t *testing.T) {
	const shared, selector, method, hole = "something else leads to a dictionary", "a selector that is no object", "a method that may not run", "a hole that is not empty"
	broken(t, []spoiling{
		row("a field leads to a dictionary", "dictionary", shared, func(t *testing.T, w *world) { store(t, w.h, w.filled, 1, w.pairDict) }),
		row("what nothing leads to leads to a dictionary", "dictionary", shared, func(t *testing.T, w *world) { put(t, w.h, w.s[8], w.thingDict) }),
		row("a dictionary leads to itself", "dictionary", shared, func(t *testing.T, w *world) { store(t, w.h, w.pairDict, 2, w.pairDict) }),
		row("a dictionary is a selector in another one", "dictionary", shared, func(t *testing.T, w *world) { store(t, w.h, w.pairDict, 2, w.methodDict) }),
		row("a dictionary is a literal", "dictionary", shared, func(t *testing.T, w *world) {
			write(t, w.h, w.s[5], api.Method{Stack: 1, Lits: []api.Word{w.methodDict}, Code: []api.Instr{in(18)}})
		}),
		row("two classes share a dictionary", "dictionary", shared, func(t *testing.T, w *world) { store(t, w.h, w.bag, 1, w.thingDict) }),
		row("two classes share a dictionary without fields", "dictionary", shared, func(t *testing.T, w *world) {
			store(t, w.h, w.bag, 1, w.array)
			store(t, w.h, w.triple, 1, w.array)
		}),
		row("a special is a dictionary", "dictionary", shared, func(t *testing.T, w *world) { store(t, w.h, w.root, 1, w.methodDict) }),
		row("a dictionary is the class of an object", "class dictionary", "the class of an object is none", func(t *testing.T, w *world) { reclass(t, w.h, w.four, w.thingDict) }),
		row("a selector is an integer", "selector", selector, func(t *testing.T, w *world) { store(t, w.h, w.pairDict, 2, num(1)) }),
		row("a selector is the word 0", "selector zero", "the word 0", func(t *testing.T, w *world) { store(t, w.h, w.pairDict, 2, 0) }),
		row("a selector is there twice", "selector", selector, func(t *testing.T, w *world) { store(t, w.h, w.pairDict, 2, w.three) }),
		row("a selector is there twice, with the same method", "selector", selector, func(t *testing.T, w *world) { set(t, w.h, w.thingDict, w.one, w.plain, w.one, w.plain) }),
		row("a selector is there twice, far apart", "selector", selector, func(t *testing.T, w *world) { set(t, w.h, w.pairDict, w.three, w.plain) }),
		row("a hole that is not empty", "hole", hole, func(t *testing.T, w *world) { store(t, w.h, w.pairDict, 1, w.plain) }),
		row("a last hole that is not empty", "hole", hole, func(t *testing.T, w *world) { store(t, w.h, w.pairDict, 7, num(0)) }),
		row("a hole with the word 0", "hole zero", "the word 0", func(t *testing.T, w *world) { store(t, w.h, w.pairDict, 1, 0) }),
		row("a method is Nil", "installed", method, func(t *testing.T, w *world) { store(t, w.h, w.pairDict, 3, w.s[0]) }),
		row("a method is an integer", "installed", method, func(t *testing.T, w *world) { store(t, w.h, w.pairDict, 3, num(0)) }),
		row("a method is an instance", "installed", method, func(t *testing.T, w *world) { store(t, w.h, w.pairDict, 3, w.instance) }),
		row("a method is of another class", "installed", method, func(t *testing.T, w *world) {
			store(t, w.h, w.pairDict, 3, write(t, w.h, w.s[8], api.Method{Code: []api.Instr{in(18)}}))
		}),
		row("a method is a block", "installed", method, func(t *testing.T, w *world) { store(t, w.h, w.pairDict, 3, w.block) }),
		row("a method names a field that is not there", "installed", method, func(t *testing.T, w *world) { store(t, w.h, w.pairDict, 3, w.third) }),
		row("a method is accepted in one class, but not in the other", "installed", method, func(t *testing.T, w *world) {
			store(t, w.h, w.triple, 1, put(t, w.h, w.s[8], w.one, w.third))
			store(t, w.h, w.bag, 1, put(t, w.h, w.s[8], w.one, w.third))
		}),
		row("a method is accepted in one class, but not in a later one without fields", "installed", method, func(t *testing.T, w *world) {
			put(t, w.h, w.s[7], w.thing, put(t, w.h, w.s[8], w.one, w.second), num(0), num(0))
		}),
		row("a method is accepted in one class, but not in an earlier one without fields", "installed", method, func(t *testing.T, w *world) {
			store(t, w.h, w.s[3], 1, put(t, w.h, w.s[8], w.one, w.second))
		}),
		row("a method of ClassMethod names a field", "installed", method, func(t *testing.T, w *world) { store(t, w.h, w.methodDict, 1, w.second) }),
		row("a method of ClassClass names a field", "installed", method, func(t *testing.T, w *world) {
			store(t, w.h, w.s[7], 1, put(t, w.h, w.s[8], w.one, w.second))
		}),
		row("a method takes from an empty stack", "installed", method, func(t *testing.T, w *world) {
			store(t, w.h, w.thingDict, 3, write(t, w.h, w.s[5], api.Method{Code: []api.Instr{in(10), in(18)}}))
		}),
		row("an object of ClassMethod with an instruction that is none", "no method", "the class of methods is none", func(t *testing.T, w *world) {
			put(t, w.h, w.s[5], num(0), num(0), num(0), num(0), num(0), num(24))
		}),
		row("an object of ClassMethod without instructions", "no method", "the class of methods is none", func(t *testing.T, w *world) {
			put(t, w.h, w.s[5], num(0), num(0), num(0), num(0), num(0))
		}),
		row("an installed method is none", "installed no method", "the class of methods is none", func(t *testing.T, w *world) { store(t, w.h, w.second, 0, num(5)) }),
	})
}

// A ring or a long line in a heap full of classes has to be examined without walking it anew for each of them.
func TestFitOfManyClasses(t *testing.T) {
	w := newWorld(t, 65536)
	last := w.thing
	for w.h.Used()+7 <= w.h.Words() {
		last = put(t, w.h, w.s[7], last, w.s[0], num(0), num(0))
	}
	fit(t, w.h, "a line")
	store(t, w.h, w.thing, 0, last)
	if e := class.Fit(w.h); e != api.ErrImage {
		t.Errorf("a ring: Fit = %d", e)
	}
}

// A method with many blocks in many dictionaries has to be verified once.
func TestFitOfOneMethodInManyPairs(t *testing.T) {
	w := newWorld(t, 65536)
	inner := make([]api.Word, 32)
	for k := range inner {
		inner[k] = write(t, w.h, w.s[5], api.Method{Stack: 1, Code: append(slices.Repeat([]api.Instr{in(6), in(10)}, 63), in(6), in(22))})
	}
	pushes := func(ends int, lits []api.Word) api.Method {
		m := api.Method{Stack: 1, Lits: lits}
		for k := range lits {
			m.Code = append(m.Code, in(19, k), in(10))
		}
		m.Code = append(m.Code, in(6), in(ends))
		return m
	}
	outer := make([]api.Word, 32)
	for k := range outer {
		outer[k] = write(t, w.h, w.s[5], pushes(22, inner))
	}
	method := write(t, w.h, w.s[5], pushes(17, outer))
	if n, e := code.Read(w.h, method); e != api.OK || len(n.Lits) != 32 {
		t.Fatal(e)
	}
	var selectors []api.Word
	for range 256 {
		selectors = append(selectors, put(t, w.h, w.thing))
	}
	for w.h.Used()+3+512+7 <= w.h.Words() {
		var l []api.Word
		for _, s := range selectors {
			l = append(l, s, method)
		}
		put(t, w.h, w.s[7], w.thing, put(t, w.h, w.s[8], l...), num(0), num(0))
	}
	fit(t, w.h, "one method")
}
