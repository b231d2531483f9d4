package interp_test

import (
	"fmt"
	"math"
	"slices"
	"testing"

	"tappet/api"
	"tappet/heap"
	"tappet/interp"
)

// P10.1

// deep is a method with the depths 0 1 2 1 -1 1.
func deep() api.Method {
	return api.Method{Args: 1, Temps: 2, Stack: 3, Prim: 7, Lits: words(num(5), num(-5)), Code: body(
		in(api.OpPushInt, 2048), in(api.OpPushInt, 2049), in(api.OpArith, 0), in(api.OpJump, 5), in(api.OpDrop), in(api.OpReturn))}
}

// sameMethod: are two methods the same? A list without elements may be nil or not.
func sameMethod(a, b api.Method) bool {
	return a.Args == b.Args && a.Temps == b.Temps && a.Stack == b.Stack && a.Prim == b.Prim && slices.Equal(a.Lits, b.Lits) && slices.Equal(a.Code, b.Code)
}

// frames is a context that is resumable.
func frames(t *testing.T, what string, h *heap.Heap, x api.Word, m api.Method, pc, depth int) {
	t.Helper()
	before := pictureOf(h)
	got, at, n, e := interp.Frame(h, x)
	if !sameMethod(got, m) || at != pc || n != depth || e != api.OK {
		t.Errorf("%s: Frame(%d) = %v, %d, %d, error %d, want %v, %d, %d", what, x, got, at, n, e, m, pc, depth)
	}
	looks(t, what, h, before)
}

// noFrame is a word that is no resumable context.
func noFrame(t *testing.T, what string, h *heap.Heap, x api.Word) {
	t.Helper()
	before := pictureOf(h)
	m, pc, depth, e := interp.Frame(h, x)
	if !sameMethod(m, api.Method{}) || pc != 0 || depth != 0 || e != api.ErrResume {
		t.Errorf("%s: Frame(%d) = %v, %d, %d, error %d, want ErrResume", what, x, m, pc, depth, e)
	}
	looks(t, what, h, before)
}

func TestFrame(t *testing.T) {
	w := newWorld(t, 2048)
	method := w.method(t, deep())
	for pc, depth := range []int{0, 1, 2, 1, -1, 1} {
		for _, more := range []int{0, 1, 2, 20} {
			x := w.at(t, method, w.instance, pc, slices.Repeat(words(num(8)), 2+max(depth, 0))...)
			big := put(t, w.h, w.s[4], slices.Repeat(words(num(77)), 11+more)...)
			for k := range 11 {
				store(t, w.h, big, k, fetch(t, w.h, x, k))
			}
			what := fmt.Sprintf("pc %d, %d more fields", pc, more)
			if depth < 0 {
				noFrame(t, what, w.h, big)
				continue
			}
			frames(t, what, w.h, big, deep(), pc, depth)
		}
	}
}

func TestFramePc(t *testing.T) {
	w := newWorld(t, 2048)
	x := w.at(t, w.method(t, deep()), w.instance, 0, num(1), num(2))
	for _, v := range append(words(num(-1), num(1), num(4), num(5), num(6), num(7), num(128), num(1<<32), num(greatest), num(least), 0), w.h.Objects()...) {
		store(t, w.h, x, 1, v)
		noFrame(t, "pc with the depth of 0", w.h, x)
	}
	store(t, w.h, x, 1, num(0))
	frames(t, "pc 0", w.h, x, deep(), 0, 0)
	x = w.at(t, w.method(t, deep()), w.instance, 5, num(1), num(2), num(3))
	frames(t, "the last instruction", w.h, x, deep(), 5, 1)
	for _, v := range words(num(-1), num(0), num(2), num(4), num(6), num(5+1<<32), w.s[0]) {
		store(t, w.h, x, 1, v)
		noFrame(t, "pc with the depth of 5", w.h, x)
	}
	// The depth is the same there.
	store(t, w.h, x, 1, num(3))
	frames(t, "pc 3", w.h, x, deep(), 3, 1)
}

func TestFrameHeld(t *testing.T) {
	w := newWorld(t, 2048)
	for pc, depth := range []int{0, 1, 2, 1, -1, 1} {
		x := w.at(t, w.method(t, deep()), w.instance, pc)
		for _, v := range append(words(0, num(-1), num(greatest), num(least), num(4+1<<32)), w.s[0], x) {
			store(t, w.h, x, 2, v)
			noFrame(t, "not so many words", w.h, x)
		}
		for n := range 8 {
			store(t, w.h, x, 2, num(n))
			if depth >= 0 && n == 2+depth {
				frames(t, "so many words", w.h, x, deep(), pc, depth)
			} else {
				noFrame(t, "not so many words", w.h, x)
			}
		}
	}
}

func TestFrameSize(t *testing.T) {
	w := newWorld(t, 16384)
	for _, c := range []struct{ temps, stack int }{{0, 0}, {0, 1}, {1, 0}, {3, 2}, {16, 16}, {0, 16}, {16, 0}} {
		m := api.Method{Temps: c.temps, Stack: c.stack, Code: body(in(api.OpReturnSelf))}
		method := w.method(t, m)
		for size := range 40 {
			x := put(t, w.h, w.s[4], slices.Repeat(words(w.s[0]), max(size, 6))...)
			set(t, w.h, x, w.s[0], num(0), num(c.temps), method)
			what := fmt.Sprintf("%d temporaries, %d on the stack, %d fields", c.temps, c.stack, size)
			if max(size, 6) < 6+c.temps+c.stack {
				noFrame(t, what, w.h, x)
			} else {
				frames(t, what, w.h, x, m, 0, 0)
			}
		}
	}
	// All that has to be there is, and yet there are less than six fields.
	method := w.method(t, api.Method{Code: body(in(api.OpReturnSelf))})
	for size := range 6 {
		x := put(t, w.h, w.s[4], words(w.s[0], num(0), num(0), method, num(1))[:min(size, 5)]...)
		noFrame(t, "a head that is cut off", w.h, x)
	}
}

func TestFrameClassAndMethod(t *testing.T) {
	w := newWorld(t, 2048)
	method := w.method(t, deep())
	x := w.at(t, method, w.instance, 0, num(1), num(2))
	below := put(t, w.h, w.s[7], w.s[4], w.s[0], num(6), num(1))
	for _, c := range append(words(below, w.thing, 0, num(4)), w.s[:]...) {
		if c != w.s[4] {
			reclass(t, w.h, x, c)
			noFrame(t, "no context", w.h, x)
		}
	}
	reclass(t, w.h, x, w.s[4])
	frames(t, "a context", w.h, x, deep(), 0, 0)
	for _, c := range words(w.s[8], w.thing, w.s[7], 0, num(5)) {
		reclass(t, w.h, method, c)
		noFrame(t, "a method of another class", w.h, x)
	}
	reclass(t, w.h, method, w.s[5])
	for k := range 12 {
		was := fetch(t, w.h, method, k)
		if k == 5 || k == 6 || k == 3 {
			continue // literals, and the number of the primitive
		}
		store(t, w.h, method, k, w.s[0])
		noFrame(t, "a method that can't be read", w.h, x)
		store(t, w.h, method, k, was)
	}
	for _, m := range append(words(0, num(0), num(3), w.s[0], w.s[5], w.list, x), w.selectors...) {
		store(t, w.h, x, 3, m)
		noFrame(t, "no method", w.h, x)
	}
	store(t, w.h, x, 3, method)
	frames(t, "a method", w.h, x, deep(), 0, 0)
}

// A method that can be read, but has no depths.
func TestFrameDepths(t *testing.T) {
	w := newWorld(t, 2048)
	for k, l := range [][]api.Instr{
		body(in(api.OpDrop)), body(in(api.OpPushInt)), body(in(api.OpPushTemp, 2), in(api.OpReturn)), body(in(api.OpJump, 1)),
		body(in(api.OpReturnSelf), in(api.OpArith, 8)), body(in(api.OpPushInt), in(api.OpJumpTrue, 0), in(api.OpPushInt)),
		body(in(api.OpPushInt), in(api.OpPushInt), in(api.OpReturn)),
	} {
		x := w.at(t, w.method(t, api.Method{Temps: 2, Stack: 1, Code: l}), w.instance, 0, num(1), num(2))
		noFrame(t, fmt.Sprintf("no depths %d", k), w.h, x)
	}
	// verify.Check would not accept these; its depths do.
	for _, l := range [][]api.Instr{
		body(in(api.OpPushField, 4095), in(api.OpReturn)), body(in(api.OpPushOuter, 9, 9), in(api.OpFarReturn)), body(in(api.OpPushInt), in(api.OpBlockReturn)),
		body(in(api.OpPushBlock, 0), in(api.OpReturn)),
	} {
		m := api.Method{Temps: 2, Stack: 1, Lits: words(num(4)), Code: l}
		frames(t, "depths", w.h, w.at(t, w.method(t, m), w.instance, 0, num(1), num(2)), m, 0, 0)
	}
}

// Sender, receiver and closure, and the words themselves, do not count.
func TestFrameOfAnythingElse(t *testing.T) {
	w := newWorld(t, 2048)
	x := w.at(t, w.method(t, deep()), w.instance, 1, num(1), num(2), num(3))
	for _, k := range []int{0, 4, 5, 6, 7, 8, 9, 10} {
		was := fetch(t, w.h, x, k)
		for _, v := range append(words(0, num(3)), w.h.Objects()...) {
			store(t, w.h, x, k, v)
			frames(t, fmt.Sprintf("%d in field %d", v, k), w.h, x, deep(), 1, 1)
		}
		store(t, w.h, x, k, was)
	}
}

func TestFrameOfNoContext(t *testing.T) {
	w := newWorld(t, 2048)
	for _, x := range append(noObjects(w.h), w.h.Objects()...) {
		if x == w.context {
			frames(t, "the context of the world", w.h, x, api.Method{Stack: 1, Code: body(in(api.OpPushInt, 2055), in(api.OpReturn))}, 0, 0)
		} else {
			noFrame(t, "no context", w.h, x)
		}
	}
	for what, h := range noHeaps() {
		for _, x := range words(0, 1, 2, ref(1), math.MaxUint64) {
			noFrame(t, what, h, x)
		}
	}
}

// Without a Root, all specials are 0, and an object without a class is of each special class.
func TestFrameWithoutRoot(t *testing.T) {
	h := made(t, 256)
	method := rootless(t, h, deep())
	x := put(t, h, 0, 0, num(2), num(4), method, 0, 0, num(1), num(2), num(3), num(4), 0)
	frames(t, "no Root", h, x, deep(), 2, 2)
	reclass(t, h, method, method)
	noFrame(t, "a method with a class", h, x)
	reclass(t, h, method, 0)
	reclass(t, h, x, method)
	noFrame(t, "a context with a class", h, x)
}

func TestFrameIsNewMemory(t *testing.T) {
	w := newWorld(t, 2048)
	x := w.at(t, w.method(t, deep()), w.instance, 0, num(1), num(2))
	m, _, _, _ := interp.Frame(w.h, x)
	m.Lits[0], m.Code[0] = num(9), in(api.OpDrop)
	frames(t, "again", w.h, x, deep(), 0, 0)
}
