package interp_test

import (
	"fmt"
	"slices"
	"testing"

	"tappet/api"
	"tappet/cache"
	"tappet/class"
	"tappet/code"
	"tappet/gc"
	"tappet/heap"
	"tappet/interp"
	"tappet/verify"
)

// P10.6 and P10.7, for programs of all kinds

// maker makes methods for a world.
type maker struct {
	*dice
	w      *world
	lits   []api.Word // what methods may name
	known  []api.Word // what all of them name first
	arity  map[api.Word]int
	fields int   // how many the receiver has
	outers []int // the temporaries around the block that is being made; a method has none
	wild   bool  // may be what verify.Check does not accept, as long as it has depths
}

// newMaker installs the primitives in a world, each for a selector of its own, and has some selectors for what is made.
func newMaker(t *testing.T, w *world, d *dice) *maker {
	t.Helper()
	m := &maker{dice: d, w: w, arity: map[api.Word]int{w.s[9]: 1, w.s[10]: 0}}
	for k, p := range [][2]int{
		{20, 0}, {20, 1}, {21, 0}, {9, 1}, {10, 2}, {22, 2}, {23, 1}, // the calls of a maker name these by their places
		{1, 0}, {2, 1}, {3, 0}, {4, 0}, {5, 1}, {6, 2}, {7, 0}, {8, 1}, {11, 0}, {20, 2}, {12, 0},
	} {
		selector := put(t, w.h, w.thing)
		w.install(t, w.thing, selector, withPrim(p[0], p[1]))
		m.arity[selector] = p[1]
		m.lits = append(m.lits, selector)
		if k < 7 {
			m.known = append(m.known, selector)
		}
	}
	for k := range 8 {
		m.arity[w.selectors[k]] = k % 3
		m.arity[w.s[11+k]] = 1
	}
	m.lits = append(m.lits, w.s[:3]...)
	m.lits = append(m.lits, w.s[9], w.s[10], w.s[11+d.below(8)], w.pair, w.bag, w.s[4], w.s[6], w.s[8], w.instance, w.filled, w.list, w.number, num(0), num(2), num(5), num(greatest), num(least))
	return m
}

// method is one that may be run, or a block.
func (m *maker) method(t *testing.T, args int) api.Method {
	t.Helper()
	x := api.Method{Args: args, Temps: args + m.below(3), Stack: 3 + m.below(4), Lits: slices.Clone(m.known)}
	for range 3 + m.below(8) {
		x.Lits = append(x.Lits, m.word(m.lits))
	}
	blocks := 0
	if len(m.outers) < 2 {
		blocks = m.below(3)
	}
	for range blocks {
		inner := *m
		inner.outers = append([]int{x.Temps}, m.outers...)
		x.Lits = append(x.Lits, m.w.method(t, inner.method(t, m.below(2))))
	}
	for {
		x.Code = nil
		m.fill(&x, blocks)
		if m.may(t, x) {
			return x
		}
	}
}

// may: is it one that may be run where it is meant to be?
func (m *maker) may(t *testing.T, x api.Method) bool {
	if m.wild {
		_, _, e := verify.Depths(x)
		return e == api.OK
	}
	_, e := verify.Check(m.w.h, m.w.method(t, x), m.fields, m.outers)
	return e == api.OK
}

// fill gives a method its code: a run of instructions for which there are words on the stack, and some jumps laid over them. Its last literals are so many blocks.
func (m *maker) fill(x *api.Method, blocks int) {
	depth, size := 0, 4+m.below(14)
	for len(x.Code) < size {
		if l := m.call(x, blocks); m.below(4) == 0 && depth+len(l)-1 <= x.Stack {
			x.Code = append(x.Code, l...)
			depth++
			continue
		}
		i, pops, pushes := m.instr(x, blocks)
		if pops < 0 || pops > depth || depth-pops+pushes > x.Stack {
			continue
		}
		depth += pushes - pops
		x.Code = append(x.Code, i)
	}
	if blocks > 0 && depth < x.Stack && m.below(2) == 0 {
		x.Code = append(x.Code, in(api.OpPushBlock, len(x.Lits)-1-m.below(blocks)))
	} else if depth == 0 {
		x.Code = append(x.Code, in(api.OpPushSelf))
	}
	end := in(api.OpReturn)
	if len(m.outers) > 0 {
		end = in([]int{api.OpBlockReturn, api.OpFarReturn}[m.below(2)])
	} else if m.below(3) == 0 {
		end = in(api.OpReturnSelf)
	}
	x.Code = append(x.Code, end)
	for range m.below(6) {
		y := *x
		y.Code = slices.Clone(x.Code)
		at := m.below(size)
		to := at + 1 + m.below(size-at)
		if m.below(8) == 0 {
			to = m.below(size)
		}
		y.Code[at] = in([]int{api.OpJump, api.OpJumpTrue, api.OpJumpFalse}[m.below(3)], to)
		if _, _, e := verify.Depths(y); e == api.OK {
			*x = y
		}
	}
}

// call is a send that is likely to do something, with the pushes ahead of it: it leaves one word on the stack.
func (m *maker) call(x *api.Method, blocks int) []api.Instr {
	value := in(api.OpPushInt, 2048+m.below(9))
	switch k := m.below(9); {
	case k < 3 && blocks > 0:
		lit := len(x.Lits) - 1 - m.below(blocks)
		block, _ := code.Read(m.w.h, x.Lits[lit])
		l := body(in(api.OpPushBlock, lit), value, value)[:1+block.Args]
		return append(l, in(api.OpSend, block.Args, block.Args))
	case k == 3:
		return body(value, in(api.OpSend, 2))
	case k == 4:
		return body(in(api.OpPushContext), in(api.OpPushInt, 2049+m.below(12)), in(api.OpSend, 3, 1))
	case k == 5:
		return body(in(api.OpPushContext), in(api.OpPushInt, 2049+m.below(12)), value, in(api.OpSend, 4, 2))
	}
	lit := m.below(len(x.Lits) - blocks)
	l := body([]api.Instr{in(api.OpPushSelf), value, in(api.OpPushLit, m.below(len(x.Lits)))}[m.below(3)], value, value)
	args := m.arity[x.Lits[lit]]
	l = append(l[:1+args], in([]int{api.OpSend, api.OpSend, api.OpSuper}[m.below(3)], lit, args))
	if m.below(2) == 0 {
		return append(l, in(api.OpSend, 0)) // the answer may be a block
	}
	return l
}

// instr is an instruction, with how many words it pops and pushes; it pops less than none if it may not be here.
func (m *maker) instr(x *api.Method, blocks int) (api.Instr, int, int) {
	lit := m.below(len(x.Lits))
	op := []int{1, 2, 3, 4, 5, 5, 6, 7, 8, 8, 9, 10, 11, 11, 11, 12, 13, 13, 15, 16, 19, 20, 21}[m.below(23)]
	if len(m.outers) > 0 && m.below(3) == 0 {
		op = 20 + m.below(2)
	}
	switch op {
	case api.OpPushTemp, api.OpPopTemp:
		if x.Temps == 0 {
			return in(op), -1, 0
		}
		return in(op, m.below(x.Temps)), op - 1, 2 - op
	case api.OpPushLit:
		return in(op, lit), 0, 1
	case api.OpPushBlock:
		if blocks > 0 {
			return in(op, len(x.Lits)-1-m.below(blocks)), 0, 1
		}
		return in(op, lit), m.odd(0), 1
	case api.OpPushField, api.OpPopField:
		if k := m.below(m.fields + 1); k < m.fields {
			return in(op, k), op - 4, 5 - op
		}
		return in(op, m.fields), m.odd(op - 4), 5 - op
	case api.OpPushInt:
		return in(op, 2048+m.below(12)-3), 0, 1
	case api.OpDup:
		return in(op), 1, 2
	case api.OpDrop:
		return in(op), 1, 0
	case api.OpSend, api.OpSuper:
		args := m.arity[x.Lits[lit]]
		if m.below(12) == 0 {
			args = m.below(5)
		}
		return in(op, lit, args), args + 1, 1
	case api.OpArith:
		return in(op, m.below(8)), 2, 1
	case api.OpJumpTrue, api.OpJumpFalse:
		return in(op, len(x.Code)+1), 1, 0
	case api.OpPushOuter, api.OpPopOuter:
		outs, k := 1+m.below(2), m.below(3)
		if outs <= len(m.outers) && k < m.outers[outs-1] || m.odd(0) == 0 {
			return in(op, outs, k), op - 20, 21 - op
		}
		return in(op), -1, 0
	default:
		return in(op), 0, 1
	}
}

// odd is how many words an instruction pops that verify.Check does not accept; below none where there may be none such.
func (m *maker) odd(pops int) int {
	if m.wild && m.below(4) == 0 {
		return pops
	}
	return -1
}

// ownFields is how many fields any context has of a method that is made.
const ownFields = 9

// populate lets a world's classes understand selectors by what is made; it answers contexts to begin with, some of which are their own receivers.
func populate(t *testing.T, w *world, d *dice, starts int) []api.Word {
	t.Helper()
	m := newMaker(t, w, d)
	classes := words(w.thing, w.pair, w.triple, w.s[3], w.s[4], w.s[6], w.s[8], w.bag)
	// What a method sends was installed before it, so that most programs come to an end.
	for _, selector := range slices.Concat(w.s[9:19], w.selectors) {
		for k := range 4 {
			of := w.thing
			if k > 0 {
				of = d.word(classes)
			}
			m.fields = class.Fields(w.h, of)
			x := m.method(t, m.arity[selector])
			if selector == w.s[10] && d.below(3) > 0 {
				x = api.Method{Stack: 1, Lits: words(w.s[1+d.below(2)]), Code: body(in(api.OpPushLit), in(api.OpReturn))}
			}
			if d.below(9) > 0 {
				m.lits = append(m.lits, w.install(t, of, selector, x))
			}
		}
		m.lits = append(m.lits, selector, selector, selector)
	}
	var l []api.Word
	for range starts {
		self := d.word(words(w.instance, w.instance, w.filled, w.list))
		m.fields, _ = w.h.Size(self)
		own := d.below(4) == 0
		if own {
			m.fields = ownFields
		}
		m.wild = d.below(3) == 0
		x := w.start(t, self, m.method(t, 0))
		if own {
			store(t, w.h, x, 4, x)
		}
		l = append(l, x)
	}
	return l
}

// tally counts what came about in random runs.
type tally struct {
	ops    [24]int
	ends   map[api.Errno]int
	done   int
	memory int
	out    int
}

// follow does steps on a heap and on the model, and holds them against one another after each.
func follow(t *testing.T, what string, w *world, c *cache.Cache, start api.Word, steps int, n *tally, between func(s interp.State, h ...*heap.Heap)) {
	t.Helper()
	m := &model{twin(t, w.h), interp.State{Active: start}}
	s := interp.State{Active: start}
	for k := range steps {
		between(s, w.h, m.h)
		if x, pc, _, e := interp.Frame(w.h, s.Active); e == api.OK {
			n.ops[x.Code[pc].Op]++
		}
		out := len(s.Out)
		next, e := interp.Step(w.h, c, s)
		f := m.step()
		if e != f || !same(next, m.s) || len(next.Out) > out+1 {
			t.Fatalf("%s, step %d: %v, error %d, want %v, error %d", what, k, next, e, m.s, f)
		}
		s = next
		if k%5 == 0 || e != api.OK || s.Done || s.E != api.OK {
			if d := difference(pictureOf(w.h), pictureOf(m.h)); d != "" {
				t.Fatalf("%s, step %d: the heap has %s", what, k, d)
			}
		}
		if e == api.ErrMemory {
			n.memory++
			var freed int
			s, freed = collected(t, w.h, c, s)
			m.s, _ = collected(t, m.h, nil, m.s)
			if freed < 40 {
				break
			}
		}
		if s.Done || s.E != api.OK {
			break
		}
	}
	if s.Done {
		n.done++
	}
	n.ends[s.E]++
	n.out += len(s.Out)
}

// collected is a state whose heap has been collected.
func collected(t *testing.T, h *heap.Heap, c *cache.Cache, s interp.State) (interp.State, int) {
	t.Helper()
	roots, freed, e := gc.Run(h, words(s.Active))
	if e != api.OK {
		t.Fatalf("Run = error %d", e)
	}
	c.Clear()
	s.Active = roots[0]
	return s, freed
}

// tighten lets the heap be a copy of another one with room for only so many more words. All objects are where they were.
func (w *world) tighten(t *testing.T, h *heap.Heap, room int) {
	t.Helper()
	w.h = made(t, h.Used()+room)
	if e := w.h.Load(h.Dump(), h.Root(), h.Hashes()); e != api.OK {
		t.Fatalf("Load = error %d", e)
	}
}

func TestRandomPrograms(t *testing.T) {
	n := &tally{ends: map[api.Errno]int{}}
	for seed := range 45 {
		w, d := newWorld(t, api.MaxWords), newDice(seed)
		starts, _, e := gc.Run(w.h, populate(t, w, d, 12))
		if e != api.OK {
			t.Fatalf("Run = error %d", e)
		}
		full := w.h
		for k, start := range starts {
			w.tighten(t, full, 40<<d.below(8))
			follow(t, fmt.Sprint("seed ", seed, ", start ", k), w, []*cache.Cache{nil, lines(t, 1), lines(t, 5), lines(t, 256)}[d.below(4)], start, 300, n, func(interp.State, ...*heap.Heap) {})
			w.fit(t, fmt.Sprint("seed ", seed, ", start ", k))
		}
	}
	n.judge(t, 30, api.OK, api.ErrLookup, api.ErrResume)
}

// spoil changes a word of an object on the way from the active context to its home or to its senders, or of any other; now and then a class, or the Root.
func (d *dice) spoil(s interp.State, l ...*heap.Heap) {
	h := l[0]
	refs := h.Objects()
	of, v := d.word(refs), d.word(refs)
	if d.below(2) == 0 {
		none := class.Special(h, 0)
		v = d.word(words(0, num(0), num(1), num(2), num(3), num(7), num(-1), none, none, none, s.Active))
	}
	for context := s.Active; d.below(3) > 0; {
		of = context
		next, _ := h.Fetch(context, []int{0, 5}[d.below(2)])
		if class.Of(h, next) == class.Special(h, api.ClassBlock) {
			next, _ = h.Fetch(next, 0)
		}
		if !h.Has(next) {
			break
		}
		context = next
	}
	size, _ := h.Size(of)
	k, what := d.below(max(1, min(size, 8))), d.below(500)
	if home, ok := (&model{h: h}).home(s.Active); ok && d.below(10) == 0 {
		of, k, v = home, 1, class.Special(h, 0) // it has returned
	}
	for _, h := range l {
		switch {
		case what == 0:
			h.SetRoot(v)
		case what < 20:
			h.SetClass(of, v)
		default:
			h.Store(of, k, v)
		}
	}
}

func TestRandomSpoiledPrograms(t *testing.T) {
	n := &tally{ends: map[api.Errno]int{}}
	for seed := range 60 {
		w, d := newWorld(t, api.MaxWords), newDice(1000+seed)
		starts, _, e := gc.Run(w.h, populate(t, w, d, 12))
		if e != api.OK {
			t.Fatalf("Run = error %d", e)
		}
		full := w.h
		for k, start := range slices.Concat(starts, starts, starts) {
			w.tighten(t, full, 40<<d.below(8))
			often := 2 + d.below(60)
			follow(t, fmt.Sprint("seed ", seed, ", start ", k), w, nil, start, 200, n, func(s interp.State, l ...*heap.Heap) {
				if d.below(often) == 0 {
					d.spoil(s, l...)
				}
			})
		}
	}
	n.judge(t, 30, api.OK, api.ErrArg, api.ErrLookup, api.ErrResume, api.ErrReturn)
}

// judge: has enough come about?
func (n *tally) judge(t *testing.T, least int, ends ...api.Errno) {
	t.Helper()
	for op, times := range n.ops {
		if op > 0 && times < least {
			t.Errorf("operation %d was done only %d times", op, times)
		}
	}
	for _, e := range ends {
		if n.ends[e] < 2 {
			t.Errorf("only %d ended with %d", n.ends[e], e)
		}
	}
	if n.done < 5 || n.memory < 5 || n.out < least {
		t.Errorf("%d were done, %d had no room, and %d numbers were put out", n.done, n.memory, n.out)
	}
}
