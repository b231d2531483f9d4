package interp_test

import (
	"fmt"
	"math"
	"slices"
	"testing"

	"tappet/api"
	"tappet/heap"
	"tappet/interp"
)

// P10.6, the instructions that are no sends and no returns, and what holds for all

// effect is what an instruction does to its context: its words and its pc, before and after. The method has two temporaries; the context has Nil behind its words.
type effect struct {
	i             api.Instr
	before, after []api.Word
	next          int
}

// padded is a method whose instruction 2 is the given one, reached with so many words on the stack, and behind which the stack may be empty or not.
func padded(i api.Instr, depth int, lits ...api.Word) api.Method {
	m := api.Method{Temps: 2, Stack: 6, Lits: lits, Code: body(in(api.OpPushInt), in(api.OpDrop))}
	for range depth {
		m.Code = append(m.Code, in(api.OpPushInt))
	}
	m.Code = append(m.Code, i)
	for range 4 {
		m.Code = append(m.Code, in(api.OpPushInt), in(api.OpDrop))
	}
	m.Code = append(m.Code, in(api.OpReturnSelf))
	return m
}

// context is one at the instruction of a padded method.
func (w *world) padded(t *testing.T, i api.Instr, self api.Word, lits []api.Word, l ...api.Word) api.Word {
	t.Helper()
	depth := len(l) - 2
	x := w.at(t, w.method(t, padded(i, depth, lits...)), self, 2+depth, l...)
	if _, _, n, e := interp.Frame(w.h, x); n != depth || e != api.OK {
		t.Fatalf("Frame of the context at %v = %d, error %d, want %d", i, n, e, depth)
	}
	return x
}

// settled is the picture with a context that holds other words and goes on elsewhere; it held more words before, or not.
func (p picture) settled(x, none api.Word, held, next int, l ...api.Word) picture {
	p = p.with(x, 1, num(next)).with(x, 2, num(len(l)))
	return p.with(x, 6, append(slices.Clone(l), slices.Repeat(words(none), max(0, held-len(l)))...)...)
}

func TestStepMovesWords(t *testing.T) {
	a, b, x, y := num(100), num(101), num(102), num(103)
	w := newWorld(t, 8192)
	lits := words(num(50), w.list, w.s[0])
	for _, c := range []effect{
		{in(api.OpPushTemp, 0), words(a, b), words(a, b, a), 0},
		{in(api.OpPushTemp, 1), words(a, b, x), words(a, b, x, b), 0},
		{in(api.OpPopTemp, 0), words(a, b, x), words(x, b), 0},
		{in(api.OpPopTemp, 1), words(a, b, x, y), words(a, y, x), 0},
		{in(api.OpPushLit, 0), words(a, b), words(a, b, num(50)), 0},
		{in(api.OpPushLit, 1), words(a, b, x), words(a, b, x, w.list), 0},
		{in(api.OpPushLit, 2), words(a, b), words(a, b, w.s[0]), 0},
		{in(api.OpPushSelf, 9, 9), words(a, b, x), words(a, b, x, w.instance), 0},
		{in(api.OpPushInt, 0), words(a, b), words(a, b, num(-2048)), 0},
		{in(api.OpPushInt, 2047), words(a, b), words(a, b, num(-1)), 0},
		{in(api.OpPushInt, 2048), words(a, b), words(a, b, num(0)), 0},
		{in(api.OpPushInt, 4095, 4095), words(a, b, x), words(a, b, x, num(2047)), 0},
		{in(api.OpDup), words(a, b, x), words(a, b, x, x), 0},
		{in(api.OpDup, 7, 7), words(a, b, x, y), words(a, b, x, y, y), 0},
		{in(api.OpDrop), words(a, b, x), words(a, b), 0},
		{in(api.OpDrop), words(a, b, x, y), words(a, b, x), 0},
		{in(api.OpJump, 0), words(a, b), words(a, b), -2},
		{in(api.OpJump, 3), words(a, b), words(a, b), 1},
		{in(api.OpJump, 9), words(a, b), words(a, b), 7},
		{in(api.OpPushField, 0), words(a, b), words(a, b, num(10)), 0},
		{in(api.OpPushField, 2), words(a, b, x), words(a, b, x, num(12)), 0},
		{in(api.OpPopOuter, 0, 1), words(a, b, x), words(a, x), 0},
		{in(api.OpPushOuter, 0, 0), words(a, b), words(a, b, a), 0},
	} {
		x := w.padded(t, c.i, w.instance, lits, c.before...)
		next := 1 + len(c.before)
		if c.next != 0 {
			next = 2 + c.next
		}
		s := interp.State{Active: x, Out: []int{1, 2}}
		after := pictureOf(w.h).settled(x, w.s[0], len(c.before), next, c.after...)
		becomes(t, fmt.Sprint(c.i, c.before), w.h, nil, s, s, api.OK, after)
	}
	w.fit(t, "words moved")
}

// The words behind those that a context holds are left as they are, but for those that were popped.
func TestStepLeavesTheRest(t *testing.T) {
	w := newWorld(t, 2048)
	x := w.padded(t, in(api.OpDrop), w.instance, nil, num(1), num(2), num(3), num(4))
	for k := 10; k < 14; k++ {
		store(t, w.h, x, k, num(70+k))
	}
	s := interp.State{Active: x}
	becomes(t, "drop", w.h, nil, s, s, api.OK, pictureOf(w.h).with(x, 1, num(5), num(3)).with(x, 9, w.s[0]))
	becomes(t, "push", w.h, nil, s, s, api.OK, pictureOf(w.h).with(x, 1, num(6), num(4)).with(x, 9, num(-2048)))
}

func TestStepPushContext(t *testing.T) {
	w := newWorld(t, 2048)
	x := w.padded(t, in(api.OpPushContext, 5, 5), w.instance, nil, num(1), num(2), num(3))
	s := interp.State{Active: x}
	becomes(t, "context", w.h, nil, s, s, api.OK, pictureOf(w.h).settled(x, w.s[0], 3, 4, num(1), num(2), num(3), x))
	w.fit(t, "context")
}

func TestStepFields(t *testing.T) {
	w := newWorld(t, 8192)
	last := w.s[0]
	for _, self := range words(w.instance, w.filled, w.list, w.context, w.block, w.selectors[0], w.s[0], put(t, w.h, w.s[8], slices.Repeat(words(num(1)), 512)...)) {
		size, _ := w.h.Size(self)
		for _, k := range []int{0, 1, 2, size - 1, size, size + 1, 511, 512, 4095} {
			if k < 0 {
				continue
			}
			what := fmt.Sprintf("field %d of %d", k, size)
			x := w.padded(t, in(api.OpPushField, k), self, nil, num(1), num(2), num(3))
			y := w.padded(t, in(api.OpPopField, k), self, nil, num(1), num(2), num(3), num(1000+k))
			s, r := interp.State{Active: x, Out: []int{8}}, interp.State{Active: y, Out: []int{9}}
			if k >= size {
				stops(t, what, w.h, nil, s, api.ErrResume)
				stops(t, what, w.h, nil, r, api.ErrResume)
				continue
			}
			v := fetch(t, w.h, self, k)
			becomes(t, what, w.h, nil, s, s, api.OK, pictureOf(w.h).settled(x, w.s[0], 3, 4, num(1), num(2), num(3), v))
			after := pictureOf(w.h).settled(y, w.s[0], 4, 5, num(1), num(2), num(3)).with(self, k, num(1000+k))
			becomes(t, what, w.h, nil, r, r, api.OK, after)
			last = fetch(t, w.h, self, k)
			store(t, w.h, self, k, v)
		}
	}
	if last != num(1511) {
		t.Errorf("the last field of 512 became %d", last)
	}
}

func TestStepFieldsOfWhatHasNone(t *testing.T) {
	w := newWorld(t, 8192)
	below := put(t, w.h, w.s[7], w.s[7], w.s[0], num(4), num(1))
	free := put(t, w.h, below, num(1), num(2), num(3), num(4), num(5))
	for _, self := range append(noObjects(w.h), w.s[3], w.s[5], w.s[7], w.thing, w.pair, w.number, free) {
		if self%2 == 0 && self != 0 && !w.h.Has(self) {
			continue // no field holds it
		}
		x := w.padded(t, in(api.OpPushField, 0), self, nil, num(1), num(2))
		y := w.padded(t, in(api.OpPopField, 0), self, nil, num(1), num(2), num(3))
		what := fmt.Sprintf("the receiver %d", self)
		if self == free {
			// Its class is below ClassClass, but is not that.
			becomes(t, what, w.h, nil, interp.State{Active: x}, interp.State{Active: x}, api.OK, pictureOf(w.h).settled(x, w.s[0], 2, 3, num(1), num(2), num(1)))
			becomes(t, what, w.h, nil, interp.State{Active: y}, interp.State{Active: y}, api.OK, pictureOf(w.h).settled(y, w.s[0], 3, 4, num(1), num(2)).with(free, 0, num(3)))
			continue
		}
		stops(t, what, w.h, nil, interp.State{Active: x}, api.ErrResume)
		stops(t, what, w.h, nil, interp.State{Active: y}, api.ErrResume)
	}
}

// own is the context of a padded method that is its own receiver.
func (w *world) own(t *testing.T, i api.Instr, l ...api.Word) api.Word {
	t.Helper()
	x := w.padded(t, i, w.instance, nil, l...)
	store(t, w.h, x, 4, x)
	return x
}

// A context that is its own receiver: a field that is pushed is what it was before the instruction.
func TestStepPushesOwnField(t *testing.T) {
	w := newWorld(t, 8192)
	for k := range 14 {
		x := w.own(t, in(api.OpPushField, k), num(1), num(2), num(3), num(4))
		v := fetch(t, w.h, x, k)
		s := interp.State{Active: x}
		becomes(t, fmt.Sprint("own field ", k), w.h, nil, s, s, api.OK, pictureOf(w.h).settled(x, w.s[0], 4, 5, num(1), num(2), num(3), num(4), v))
	}
}

// A word is popped, and the pc goes on, before the word is stored: what is stored in the context itself remains, wherever that is.
func TestStepPopsIntoOwnField(t *testing.T) {
	w := newWorld(t, 32768)
	for depth := 1; depth <= 6; depth++ {
		l := words(num(1), num(2), num(3), num(4), num(5), num(6), num(7))[:1+depth]
		for k := range 14 {
			for _, v := range words(num(1000), num(0), w.s[0], w.list) {
				x := w.own(t, in(api.OpPopField, k), append(slices.Clone(l), v)...)
				s := interp.State{Active: x, Out: []int{4}}
				after := pictureOf(w.h).settled(x, w.s[0], depth+2, depth+3, l...).with(x, k, v)
				becomes(t, fmt.Sprint("own field ", k, " from depth ", depth), w.h, nil, s, s, api.OK, after)
				w.fit(t, "own field")
			}
		}
		x := w.own(t, in(api.OpPopField, 14), append(slices.Clone(l), num(9))...)
		stops(t, "behind the last one", w.h, nil, interp.State{Active: x}, api.ErrResume)
	}
}

// popsOwn is a context that is its own receiver, behind two steps of a method that begins with a push.
func (w *world) popsOwn(t *testing.T, l ...api.Instr) interp.State {
	t.Helper()
	x := w.start(t, w.instance, api.Method{Stack: 2, Code: l})
	store(t, w.h, x, 4, x)
	return run(t, w.h, nil, interp.State{Active: x}, 2)
}

// What a context stored where it says how it goes on decides how it goes on.
func TestStepAfterPopIntoOwnField(t *testing.T) {
	w := newWorld(t, 8192)
	end := body(in(api.OpPushSelf), in(api.OpDrop), in(api.OpReturnSelf))
	goes := func(pc, k int) interp.State {
		return w.popsOwn(t, append(body(in(api.OpPushInt, 2048+pc), in(api.OpPopField, k)), end...)...)
	}
	s := goes(4, 1)
	x := s.Active
	becomes(t, "the pc becomes 4", w.h, nil, s, interp.State{Active: x, Done: true, Result: x}, api.OK, pictureOf(w.h).with(x, 0, w.s[0], w.s[0]))
	s = goes(2, 1)
	becomes(t, "the pc becomes 2", w.h, nil, s, s, api.OK, pictureOf(w.h).settled(s.Active, w.s[0], 0, 3, s.Active))
	// At 3 the stack has a word, and the context holds none.
	for _, pc := range []int{-1, 3, 5, 2047} {
		s = goes(pc, 1)
		stops(t, fmt.Sprint("the pc becomes ", pc), w.h, nil, s, api.ErrResume)
	}
	for n := range 3 {
		if s = goes(n, 2); n == 0 {
			becomes(t, "it holds 0 words", w.h, nil, s, s, api.OK, pictureOf(w.h).settled(s.Active, w.s[0], 0, 3, s.Active))
			continue
		}
		stops(t, fmt.Sprint("it holds words: ", n), w.h, nil, s, api.ErrResume)
	}
	stops(t, "its method is 2", w.h, nil, goes(2, 3), api.ErrResume)
	// A sender that is no context, and a receiver that is a number, come out when it returns.
	s = run(t, w.h, nil, goes(2, 0), 2)
	becomes(t, "its sender is 2", w.h, nil, s, interp.State{Active: s.Active, E: api.ErrResume}, api.OK, pictureOf(w.h).with(s.Active, 0, w.s[0], w.s[0]))
	s = run(t, w.h, nil, goes(2, 4), 3)
	if !s.Done || s.Result != num(2) {
		t.Errorf("its receiver is 2: %v", s)
	}
}

// A word that is stored in the field from which it was popped, or in one above or below it.
func TestStepPopsIntoOwnTop(t *testing.T) {
	w := newWorld(t, 8192)
	s := w.popsOwn(t, in(api.OpPushInt, 2055), in(api.OpPopField, 6), in(api.OpReturnSelf))
	if l := (&model{h: w.h}).fields(s.Active); !slices.Equal(l[1:3], words(num(2), num(0))) || !slices.Equal(l[6:], words(num(7), w.s[0])) {
		t.Errorf("the top: %v", l)
	}
	// What is there is pushed over, and popped again, as any word.
	s = w.popsOwn(t, in(api.OpPushInt, 2055), in(api.OpPopField, 7), in(api.OpPushInt, 2050), in(api.OpDup), in(api.OpReturn))
	becomes(t, "a push below", w.h, nil, s, s, api.OK, pictureOf(w.h).settled(s.Active, w.s[0], 0, 3, num(2)))
	s = run(t, w.h, nil, s, 1)
	if l := (&model{h: w.h}).fields(s.Active); !slices.Equal(l[1:3], words(num(4), num(2))) || !slices.Equal(l[6:], words(num(2), num(2))) {
		t.Errorf("pushed over: %v", l)
	}
}

// Where the receiver is the Root, what was popped leaves the Nil that was there, even if the word becomes another Nil.
func TestStepPopsIntoRoot(t *testing.T) {
	w := newWorld(t, 8192)
	x := w.padded(t, in(api.OpPopField, 0), w.root, nil, num(1), num(2), num(3), w.list)
	s := interp.State{Active: x}
	becomes(t, "another Nil", w.h, nil, s, s, api.OK, pictureOf(w.h).settled(x, w.s[0], 4, 5, num(1), num(2), num(3)).with(w.root, 0, w.list))
}

func TestStepArith(t *testing.T) {
	w := newWorld(t, 16384)
	yes, no := w.s[1], w.s[2]
	for _, c := range []struct {
		kind, a, b int
		want       api.Word
	}{
		{0, 5, 3, num(8)}, {0, greatest, 0, num(greatest)}, {0, greatest - 1, 1, num(greatest)}, {0, least, greatest, num(-1)},
		{1, 5, 3, num(2)}, {1, least + 1, 1, num(least)}, {1, -1, least, num(greatest)}, {1, 3, 5, num(-2)},
		{2, 5, 3, num(15)}, {2, -1, greatest, num(-greatest)}, {2, least, 1, num(least)}, {2, 1 << 31, 1 << 30, num(1 << 61)},
		{3, -7, 2, num(-4)}, {3, 7, 2, num(3)}, {3, least, 1, num(least)}, {3, least, 2, num(least / 2)},
		{4, -7, 2, num(1)}, {4, 7, -2, num(-1)}, {4, least, -1, num(0)},
		{5, 1, 2, yes}, {5, 2, 2, no}, {5, 3, 2, no}, {5, least, greatest, yes}, {5, greatest, least, no},
		{6, 1, 2, yes}, {6, 2, 2, yes}, {6, 3, 2, no}, {7, 2, 2, yes}, {7, 2, 3, no}, {7, least, least, yes}, {7, greatest, least, no},
	} {
		x := w.padded(t, in(api.OpArith, c.kind, 77), w.instance, nil, num(1), num(2), num(3), num(c.a), num(c.b))
		s := interp.State{Active: x}
		becomes(t, fmt.Sprint(c), w.h, nil, s, s, api.OK, pictureOf(w.h).settled(x, w.s[0], 5, 6, num(1), num(2), num(3), c.want))
	}
}

// Where there is no result, the special selector of the kind is sent to the first word, with the second one.
func TestStepArithSends(t *testing.T) {
	w := newWorld(t, 32768)
	type pair struct{ a, b api.Word }
	none := map[int][]pair{
		0: {{num(greatest), num(1)}, {num(least), num(-1)}}, 1: {{num(least), num(1)}, {num(0), num(least)}, {num(greatest), num(-1)}},
		2: {{num(least), num(-1)}, {num(1 << 31), num(1 << 31)}}, 3: {{num(1), num(0)}, {num(least), num(-1)}}, 4: {{num(1), num(0)}, {num(0), num(0)}},
	}
	for kind := range 8 {
		for _, p := range append(none[kind], pair{w.list, num(1)}, pair{num(1), w.list}, pair{w.s[1], w.s[1]}, pair{w.s[0], num(0)}) {
			x := w.padded(t, in(api.OpArith, kind), w.instance, nil, num(1), num(2), num(3), p.a, p.b)
			stops(t, fmt.Sprint("not understood ", kind, p), w.h, nil, interp.State{Active: x}, api.ErrLookup)
		}
	}
	for kind := range 8 {
		m := w.install(t, w.thing, w.s[11+kind], withPrim(0, 1))
		for _, p := range append(none[kind], pair{w.list, num(1)}, pair{num(1), w.list}, pair{w.s[1], w.s[1]}) {
			x := w.padded(t, in(api.OpArith, kind), w.instance, nil, num(1), num(2), num(3), p.a, p.b)
			after := pictureOf(w.h).settled(x, w.s[0], 5, 6, num(1), num(2), num(3)).add(w.s[4], x, num(0), num(1), m, p.a, w.s[0], p.b, w.s[0])
			becomes(t, fmt.Sprint("understood ", kind, p), w.h, nil, interp.State{Active: x}, interp.State{Active: ref(w.h.Used())}, api.OK, after)
		}
	}
	w.fit(t, "arithmetic")
}

func TestStepJumps(t *testing.T) {
	w := newWorld(t, 8192)
	m := w.install(t, w.thing, w.s[10], withPrim(0, 0))
	for _, c := range []struct {
		op   int
		v    api.Word
		next int // 0: it is asked
	}{
		{api.OpJumpTrue, w.s[1], 8}, {api.OpJumpTrue, w.s[2], 4}, {api.OpJumpFalse, w.s[1], 4}, {api.OpJumpFalse, w.s[2], 8},
		{api.OpJumpTrue, num(5), 0}, {api.OpJumpTrue, w.s[0], 0}, {api.OpJumpFalse, w.list, 0}, {api.OpJumpFalse, num(0), 0}, {api.OpJumpTrue, w.thing, 0},
	} {
		x := w.padded(t, in(c.op, 8), w.instance, nil, num(1), num(2), c.v)
		s, want := interp.State{Active: x}, interp.State{Active: x}
		next, made := c.next, c.next == 0
		if made {
			next, want.Active = 3, ref(w.h.Used())
		}
		after := pictureOf(w.h).settled(x, w.s[0], 3, next, num(1), num(2))
		if made {
			after = after.add(w.s[4], x, num(0), num(0), m, c.v, w.s[0], w.s[0])
		}
		becomes(t, fmt.Sprint(c), w.h, lines(t, 4), s, want, api.OK, after)
	}
	w.fit(t, "jumps")
}

func TestStepJumpsOnWhatIsNotAsked(t *testing.T) {
	w := newWorld(t, 4096)
	for _, op := range []int{api.OpJumpTrue, api.OpJumpFalse} {
		x := w.padded(t, in(op, 8), w.instance, nil, num(1), num(2), num(5))
		stops(t, "not understood", w.h, nil, interp.State{Active: x, Out: []int{1}}, api.ErrLookup)
	}
	// A primitive answers at once: the answer is where the word was, and the instruction is executed again on it.
	w.install(t, w.thing, w.s[10], withPrim(11, 0))
	x := w.padded(t, in(api.OpJumpTrue, 8), w.instance, nil, num(1), num(2), num(5))
	s := interp.State{Active: x}
	for k := range 4 {
		v := num(-5)
		if k%2 == 1 {
			v = num(5)
		}
		becomes(t, "a primitive", w.h, nil, s, s, api.OK, pictureOf(w.h).settled(x, w.s[0], 3, 3, num(1), num(2), v))
	}
}

// Example 3 of the document: a jump on 5 asks 5, and is executed again on the answer.
func TestStepJumpAsks(t *testing.T) {
	for k, want := range []int{1, 2} {
		w := newWorld(t, 4096)
		w.install(t, w.thing, w.s[10], api.Method{Stack: 1, Lits: words(w.s[1+k]), Code: body(in(api.OpPushSelf), in(api.OpDrop), in(api.OpPushLit, 0), in(api.OpReturn))})
		x := w.start(t, w.instance, api.Method{Stack: 1, Code: body(
			in(api.OpPushInt, 2053), in(api.OpJumpTrue, 4), in(api.OpPushInt, 2050), in(api.OpReturn), in(api.OpPushInt, 2049), in(api.OpReturn))})
		ends(t, "asked", w, x, true, num(want), api.OK)
	}
}

func TestStepPushBlock(t *testing.T) {
	w := newWorld(t, 4096)
	body := w.blockMethod(t, 0)
	for _, lit := range words(body, num(3), w.s[0], w.list) {
		x := w.padded(t, in(api.OpPushBlock, 1), w.instance, words(num(0), lit), num(1), num(2), num(3))
		s := interp.State{Active: x}
		block := ref(w.h.Used())
		after := pictureOf(w.h).settled(x, w.s[0], 3, 4, num(1), num(2), num(3), block).add(w.s[6], x, lit, w.instance)
		becomes(t, "a block", w.h, nil, s, s, api.OK, after)
	}
	w.fit(t, "blocks")
	for room := range 8 {
		v := newWorld(t, 4096)
		x := v.padded(t, in(api.OpPushBlock, 0), v.instance, words(v.number), num(1), num(2), num(3))
		v.fillUp(t, room)
		if room < 6 {
			hasNoRoom(t, "no room", v.h, nil, interp.State{Active: x, Out: []int{5}})
			continue
		}
		s := interp.State{Active: x}
		after := pictureOf(v.h).settled(x, v.s[0], 3, 4, num(1), num(2), num(3), ref(v.h.Used())).add(v.s[6], x, v.number, v.instance)
		becomes(t, "room", v.h, nil, s, s, api.OK, after)
	}
}

// The chapter's example, and the first one of the document.
func TestStepExample(t *testing.T) {
	w := newWorld(t, 2048)
	x := w.start(t, w.instance, api.Method{Stack: 2, Code: body(in(api.OpPushInt, 2053), in(api.OpPushInt, 2051), in(api.OpArith, 0), in(api.OpReturn))})
	s := run(t, w.h, nil, interp.State{Active: x}, 3)
	if s.Done || s.E != api.OK || s.Active != x {
		t.Errorf("after three steps: %v", s)
	}
	s = run(t, w.h, nil, s, 1)
	if !same(s, interp.State{Active: x, Done: true, Result: num(8)}) {
		t.Errorf("after four steps: %v", s)
	}
	becomes(t, "after the end", w.h, nil, s, s, api.OK, pictureOf(w.h))
}

// The second one: a sum that does not fit is sent.
func TestStepGreatSum(t *testing.T) {
	w := newWorld(t, 4096)
	m := api.Method{Stack: 2, Lits: words(num(greatest)), Code: body(in(api.OpPushLit, 0), in(api.OpPushInt, 2049), in(api.OpArith, 0), in(api.OpReturn))}
	x := w.start(t, w.instance, m)
	ends(t, "not understood", w, x, false, 0, api.ErrLookup)
	w.install(t, w.thing, w.s[9], api.Method{Args: 1, Temps: 1, Stack: 1, Code: body(in(api.OpPushTemp, 0), in(api.OpReturn))})
	ends(t, "answered by SelUnknown", w, w.start(t, w.instance, m), true, w.s[11], api.OK)
	w.install(t, w.s[3], w.s[11], api.Method{Args: 1, Temps: 1, Stack: 1, Code: body(in(api.OpPushTemp, 0), in(api.OpReturn))})
	ends(t, "understood", w, w.start(t, w.instance, m), true, num(1), api.OK)
}

// P10.6 and P10.7: a state that is done or stopped does not change any more.
func TestStepOfWhatHasEnded(t *testing.T) {
	w := newWorld(t, 2048)
	heaps := noHeaps()
	heaps["a world"] = w.h
	for what, h := range heaps {
		for _, x := range words(w.context, 0, num(1), w.s[0], ref(5000)) {
			for _, s := range []interp.State{
				{Active: x, Done: true}, {Active: x, Out: []int{1}, Done: true, Result: num(3)}, {Active: x, Out: []int{1, 2}, E: api.ErrLookup},
				{Active: x, E: api.ErrMemory}, {Active: x, E: 11}, {Active: x, E: -1}, {Active: x, Done: true, E: api.ErrArg, Result: ref(4000)},
			} {
				becomes(t, what, h, nil, s, s, api.OK, pictureOf(h))
			}
		}
	}
}

func TestStepOfWhatIsNotResumable(t *testing.T) {
	w := newWorld(t, 2048)
	for _, x := range append(noObjects(w.h), w.h.Objects()...) {
		if x != w.context {
			stops(t, "no context", w.h, nil, interp.State{Active: x, Out: []int{1}}, api.ErrResume)
		}
	}
	for what, h := range noHeaps() {
		for _, x := range words(0, num(1), 2, math.MaxUint64) {
			stops(t, what, h, nil, interp.State{Active: x, Out: []int{1}, Result: x}, api.ErrResume)
			stops(t, what, h, lines(t, 3), interp.State{Active: x}, api.ErrResume)
		}
	}
	for k := range 4 {
		x := w.at(t, w.number, w.instance, 1, num(4))
		store(t, w.h, x, k, w.list)
		if k > 0 {
			stops(t, "a context that was changed", w.h, nil, interp.State{Active: x}, api.ErrResume)
		}
	}
}

// Without a Root, all specials are the word 0.
func TestStepWithoutRoot(t *testing.T) {
	machine := func(m api.Method, fields ...api.Word) (*heap.Heap, interp.State) {
		h := made(t, 256)
		method := rootless(t, h, m)
		l := append(words(0, num(0), num(m.Temps+len(fields)-1), method), fields[0], 0)
		l = append(l, fields[1:]...)
		return h, interp.State{Active: put(t, h, 0, append(l, slices.Repeat(words(0), 8)...)...)}
	}
	h, s := machine(api.Method{Stack: 2, Code: body(in(api.OpPushInt, 2053), in(api.OpPushInt, 2051), in(api.OpArith, 0), in(api.OpReturn))}, num(1))
	s = run(t, h, nil, s, 3)
	x := s.Active
	// The sender is 0, which is no Nil that ends it all.
	want := s
	want.E = api.ErrResume
	becomes(t, "return", h, nil, s, want, api.OK, pictureOf(h).with(x, 0, 0, 0))
	h, s = machine(api.Method{Stack: 2, Code: body(in(api.OpPushInt, 2053), in(api.OpPushInt, 2051), in(api.OpArith, 5), in(api.OpReturn))}, num(1))
	becomes(t, "push", h, nil, s, s, api.OK, pictureOf(h).settled(s.Active, 0, 1, 1, num(5)))
	becomes(t, "push", h, nil, s, s, api.OK, pictureOf(h).settled(s.Active, 0, 2, 2, num(5), num(3)))
	becomes(t, "compare", h, nil, s, s, api.OK, pictureOf(h).settled(s.Active, 0, 2, 3, 0))
	// True and False are both 0.
	for _, op := range []int{api.OpJumpTrue, api.OpJumpFalse} {
		h, s = machine(api.Method{Stack: 1, Code: body(in(api.OpPushSelf), in(op, 3), in(api.OpReturnSelf), in(api.OpReturnSelf))}, 0)
		becomes(t, "push 0", h, nil, s, s, api.OK, pictureOf(h).settled(s.Active, 0, 1, 1, 0))
		becomes(t, "jump on 0", h, nil, s, s, api.OK, pictureOf(h).settled(s.Active, 0, 1, 3))
	}
	// An object without a class is of ClassClass.
	h, s = machine(api.Method{Stack: 1, Code: body(in(api.OpPushField, 0), in(api.OpReturn))}, num(1))
	store(t, h, s.Active, 4, s.Active)
	stops(t, "a field", h, nil, s, api.ErrResume)
	h, s = machine(api.Method{Stack: 1, Lits: words(num(1)), Code: body(in(api.OpPushSelf), in(api.OpSend, 0, 0), in(api.OpReturn))}, num(1))
	s = run(t, h, nil, s, 1)
	stops(t, "a send", h, nil, s, api.ErrLookup)
	h, s = machine(api.Method{Stack: 1, Lits: words(num(1)), Code: body(in(api.OpPushBlock, 0), in(api.OpReturn))}, num(1))
	becomes(t, "a block", h, nil, s, s, api.OK, pictureOf(h).settled(s.Active, 0, 1, 1, ref(h.Used())).add(0, s.Active, num(1), num(1)))
}
