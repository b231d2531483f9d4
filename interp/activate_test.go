package interp_test

import (
	"slices"
	"testing"

	"tappet/api"
	"tappet/class"
	"tappet/code"
	"tappet/heap"
	"tappet/interp"
)

// P10.4

// rootless is a method's object without a class.
func rootless(t *testing.T, h *heap.Heap, m api.Method) api.Word {
	t.Helper()
	w, e := code.Write(h, 0, m)
	if e != api.OK {
		t.Fatalf("Write(%v) = error %d", m, e)
	}
	return w
}

// activates is a context that is made.
func activates(t *testing.T, what string, h *heap.Heap, head [4]api.Word, args []api.Word, temps, stack int) {
	t.Helper()
	none := class.Special(h, api.Nil)
	fields := append(words(head[0], num(0), num(temps), head[1], head[2], head[3]), args...)
	fields = append(fields, slices.Repeat(words(none), temps+stack-len(args))...)
	after, given := pictureOf(h).add(class.Special(h, api.ClassContext), fields...), slices.Clone(args)
	want := ref(h.Used())
	got, e := interp.Activate(h, head[0], head[1], head[2], head[3], args)
	if got != want || e != api.OK {
		t.Errorf("%s: Activate(%v, %v) = %d, error %d, want %d", what, head, args, got, e, want)
	}
	looks(t, what, h, after)
	if !slices.Equal(args, given) {
		t.Errorf("%s: the arguments are %v, were %v", what, args, given)
	}
}

// activatesNot is an error, and changes nothing.
func activatesNot(t *testing.T, what string, h *heap.Heap, head [4]api.Word, args []api.Word, e api.Errno) {
	t.Helper()
	before := pictureOf(h)
	got, f := interp.Activate(h, head[0], head[1], head[2], head[3], args)
	if got != 0 || f != e {
		t.Errorf("%s: Activate(%v, %v) = %d, error %d, want error %d", what, head, args, got, f, e)
	}
	looks(t, what, h, before)
}

func TestActivate(t *testing.T) {
	w := newWorld(t, 8192)
	for args := range 5 {
		for temps := args; temps <= 16; temps += 4 {
			for _, stack := range []int{0, 1, 16} {
				method := w.method(t, api.Method{Args: args, Temps: temps, Stack: stack, Prim: 9, Code: body(in(api.OpReturnSelf))})
				given := words(num(1), w.list, w.s[0], num(4))[:args]
				activates(t, "a method", w.h, [4]api.Word{w.context, method, w.instance, w.block}, given, temps, stack)
				activates(t, "whatever it is given", w.h, [4]api.Word{num(1), method, w.s[3], num(2)}, given, temps, stack)
				for size := range 7 {
					if size != args {
						activatesNot(t, "another number of arguments", w.h, [4]api.Word{w.context, method, w.instance, w.s[0]}, slices.Repeat(words(num(1)), size), api.ErrArg)
					}
				}
			}
		}
	}
	w.fit(t, "contexts")
	activates(t, "the word 0", w.h, [4]api.Word{0, w.blockMethod(t, 1), 0, 0}, words(0), 1, 1)
}

// A method need not be of ClassMethod, nor have depths, to be activated.
func TestActivateMethod(t *testing.T) {
	w := newWorld(t, 2048)
	method := w.method(t, api.Method{Temps: 1, Stack: 2, Code: body(in(api.OpDrop))})
	reclass(t, w.h, method, w.s[8])
	activates(t, "an array", w.h, [4]api.Word{w.s[0], method, w.instance, w.s[0]}, nil, 1, 2)
	store(t, w.h, method, 0, num(5))
	activatesNot(t, "five arguments", w.h, [4]api.Word{w.s[0], method, w.instance, w.s[0]}, nil, api.ErrMethod)
	for _, x := range append(noObjects(w.h), w.s[0], w.s[5], w.list, w.instance, w.context) {
		for size := range 3 {
			activatesNot(t, "no method", w.h, [4]api.Word{w.s[0], x, w.instance, w.s[0]}, slices.Repeat(words(num(1)), size), api.ErrMethod)
		}
	}
	for what, h := range noHeaps() {
		activatesNot(t, what, h, [4]api.Word{0, 2, 0, 0}, nil, api.ErrMethod)
	}
}

func TestActivateRoom(t *testing.T) {
	for room := range 14 {
		w := newWorld(t, 2048)
		method := w.method(t, api.Method{Args: 1, Temps: 2, Stack: 2, Code: body(in(api.OpReturnSelf))})
		w.fillUp(t, room)
		head := [4]api.Word{w.context, method, w.instance, w.s[0]}
		if room < 13 {
			activatesNot(t, "no room", w.h, head, words(num(1)), api.ErrMemory)
		} else {
			activates(t, "room", w.h, head, words(num(1)), 2, 2)
		}
		// What was named ahead of it.
		head[1] = w.list
		activatesNot(t, "no room and no method", w.h, head, nil, api.ErrMethod)
		head[1] = method
		activatesNot(t, "no room and no arguments", w.h, head, nil, api.ErrArg)
	}
}

func TestActivateInvalidWords(t *testing.T) {
	w := newWorld(t, 2048)
	method := w.method(t, withPrim(0, 2))
	for _, x := range invalid(w.h) {
		for _, head := range [][4]api.Word{{x, method, num(1), num(1)}, {num(1), method, x, num(1)}, {num(1), method, num(1), x}} {
			activatesNot(t, "an invalid word", w.h, head, words(num(1), num(2)), api.ErrArg)
		}
		activatesNot(t, "an invalid argument", w.h, [4]api.Word{num(1), method, num(1), num(1)}, words(x, num(2)), api.ErrArg)
		activatesNot(t, "an invalid argument", w.h, [4]api.Word{num(1), method, num(1), num(1)}, words(num(1), x), api.ErrArg)
		activatesNot(t, "and no method", w.h, [4]api.Word{x, w.list, x, x}, words(x), api.ErrMethod)
	}
}

func TestActivateWithoutRoot(t *testing.T) {
	h := made(t, 256)
	method := rootless(t, h, api.Method{Args: 1, Temps: 2, Stack: 2, Code: body(in(api.OpReturnSelf))})
	activates(t, "no Root", h, [4]api.Word{0, method, num(4), 0}, words(num(1)), 2, 2)
}
