package code_test

import (
	"math"
	"slices"
	"testing"

	"tappet/api"
	"tappet/code"
	"tappet/heap"
)

// state is all that can be read of a heap without changing it, less the references, which follow from the objects.
type state struct {
	words, used, hashes int
	root                api.Word
	objects             []heap.Object
}

func stateOf(h *heap.Heap) state {
	return state{h.Words(), h.Used(), h.Hashes(), h.Root(), h.Dump()}
}

func sameState(a, b state) bool {
	return a.words == b.words && a.used == b.used && a.hashes == b.hashes && a.root == b.root &&
		slices.EqualFunc(a.objects, b.objects, func(x, y heap.Object) bool {
			return x.Class == y.Class && x.Hash == y.Hash && slices.Equal(x.Fields, y.Fields)
		})
}

// made is a new heap.
func made(t *testing.T, words int) *heap.Heap {
	t.Helper()
	h, e := heap.New(words)
	if e != api.OK {
		t.Fatalf("New(%d) = error %d", words, e)
	}
	return h
}

// object is one with these fields, of no class.
func object(t *testing.T, h *heap.Heap, fields ...api.Word) api.Word {
	t.Helper()
	w, e := h.Alloc(0, len(fields), 0)
	for k, v := range fields {
		e = max(e, h.Store(w, k, v))
	}
	if e != api.OK {
		t.Fatalf("no object of %v: error %d", fields, e)
	}
	return w
}

// fieldsOf are P4.3's of a method.
func fieldsOf(m api.Method) []api.Word {
	fields := []api.Word{num(m.Args), num(m.Temps), num(m.Stack), num(m.Prim), num(len(m.Lits))}
	fields = append(fields, m.Lits...)
	for _, i := range m.Code {
		fields = append(fields, ins(i.Op, i.A, i.B))
	}
	return fields
}

// stored are an object's.
func stored(h *heap.Heap, w api.Word) []api.Word {
	n, _ := h.Size(w)
	fields := make([]api.Word, n)
	for k := range fields {
		fields[k], _ = h.Fetch(w, k)
	}
	return fields
}

func sameMethod(a, b api.Method) bool {
	return a.Args == b.Args && a.Temps == b.Temps && a.Stack == b.Stack && a.Prim == b.Prim &&
		slices.Equal(a.Lits, b.Lits) && slices.Equal(a.Code, b.Code)
}

// empty: is there nothing in a method?
func empty(m api.Method) bool { return sameMethod(m, api.Method{}) }

// P4.3

func TestWriteExample(t *testing.T) {
	h := made(t, 64)
	w, e := code.Write(h, 0, api.Method{Stack: 9, Code: []api.Instr{{Op: 8, A: 2053}, {Op: 17}}})
	want := []api.Word{num(0), num(0), num(9), num(0), num(0), num(8 + 64*2053), num(17)}
	if w != ref(1) || e != api.OK || !slices.Equal(stored(h, w), want) {
		t.Errorf("Write = %d, %d: %v, want %v", w, e, stored(h, w), want)
	}
}

func TestWriteAndRead(t *testing.T) {
	h := made(t, 65536)
	class := object(t, h, num(1))
	for _, class := range []api.Word{0, num(5), num(-1), class} {
		for _, m := range rightMethods() {
			before := stateOf(h)
			at := h.Used()
			w, e := code.Write(h, class, m)
			if w != ref(at) || e != api.OK {
				t.Fatalf("Write(%d, %v) = %d, %d, want %d", class, m, w, e, ref(at))
			}
			fields := fieldsOf(m)
			before.objects = append(before.objects, heap.Object{Class: class, Fields: fields})
			before.used += 3 + len(fields)
			if !sameState(stateOf(h), before) {
				t.Fatalf("Write(%d, %v): fields %v, want %v", class, m, stored(h, w), fields)
			}
			if got, e := code.Read(h, w); e != api.OK || !sameMethod(got, m) {
				t.Fatalf("Read = %v, %d, want %v", got, e, m)
			}
			if !sameState(stateOf(h), before) {
				t.Fatalf("Read has changed the heap")
			}
			h.Load(before.objects[:1], 0, 0) // room for the next one
		}
	}
}

func TestWriteOfWrongMethods(t *testing.T) {
	h := made(t, 65536)
	// The error of Check is the first: the class, the literals and the room are wrong too.
	full := made(t, 64)
	object(t, full, slices.Repeat([]api.Word{0}, 60)...)
	for _, m := range wrongMethods() {
		for name, h := range map[string]*heap.Heap{"good": h, "full": full, "nil": nil, "empty": {}} {
			for _, class := range []api.Word{0, ref(2)} {
				m.Lits = slices.Clone(m.Lits)
				if len(m.Lits) > 0 && class != 0 {
					m.Lits[0] = ref(2)
				}
				before := stateOf(h)
				if w, e := code.Write(h, class, m); w != 0 || e != api.ErrMethod {
					t.Errorf("%s heap: Write(%d, %v) = %d, %d, want 0, ErrMethod", name, class, m, w, e)
				}
				if !sameState(before, stateOf(h)) {
					t.Fatalf("%s heap: Write(%d, %v) has changed the heap", name, class, m)
				}
			}
		}
	}
}

func TestWriteWithoutAHeap(t *testing.T) {
	for name, h := range map[string]*heap.Heap{"nil": nil, "empty": {}, "new": new(heap.Heap)} {
		for _, m := range []api.Method{method(0, 1), method(2, 3), method(32, 128)} {
			for _, class := range []api.Word{0, num(1), ref(1), 1 << 63} {
				if w, e := code.Write(h, class, m); w != 0 || e != api.ErrArg {
					t.Errorf("%s heap: Write = %d, %d, want 0, ErrArg", name, w, e)
				}
			}
		}
		for _, w := range []api.Word{0, num(1), ref(1), ref(64), 1 << 63, math.MaxUint64 - 1} {
			if m, e := code.Read(h, w); e != api.ErrMethod || !empty(m) {
				t.Errorf("%s heap: Read(%d) = %v, %d, want none, ErrMethod", name, w, m, e)
			}
		}
	}
}

// noReferences are words that are not valid in a heap with an object of two fields at word 1.
func noReferences() []api.Word {
	return []api.Word{ref(2), ref(3), ref(5), ref(63), ref(64), ref(65), ref(65536), 1<<32 - 2, 1 << 32, 1<<32 + 2, 1 << 63, 1<<63 + 2, math.MaxUint64 - 1}
}

func TestWriteOfAWrongClass(t *testing.T) {
	for _, class := range append(noReferences(), ref(6)) { // the last one is where the object would be
		h := made(t, 64)
		object(t, h, num(1), num(2))
		before := stateOf(h)
		m := method(2, 3)
		m.Lits[1] = ref(2) // is not come to
		if w, e := code.Write(h, class, m); w != 0 || e != api.ErrArg {
			t.Errorf("Write(%d) = %d, %d, want 0, ErrArg", class, w, e)
		}
		if !sameState(before, stateOf(h)) {
			t.Errorf("Write(%d) has changed the heap: %v", class, stateOf(h))
		}
	}
}

func TestRoom(t *testing.T) {
	for _, c := range []struct{ lits, instrs int }{{0, 1}, {2, 3}, {0, 20}, {32, 1}, {32, 128}} {
		need := 3 + 5 + c.lits + c.instrs
		for _, words := range []int{256, 65536} {
			for left := need - 1; left <= need+1; left++ {
				h := made(t, words)
				for h.Words()-h.Used() > left {
					object(t, h, slices.Repeat([]api.Word{num(1)}, fill(h.Words()-h.Used()-left))...)
				}
				before := stateOf(h)
				w, e := code.Write(h, ref(1), method(c.lits, c.instrs))
				if left < need {
					if w != 0 || e != api.ErrMemory || !sameState(before, stateOf(h)) {
						t.Errorf("%v with %d words left: %d, %d, want 0, ErrMemory", c, left, w, e)
					}
				} else if w != ref(before.used) || e != api.OK || h.Words()-h.Used() != left-need {
					t.Errorf("%v with %d words left: %d, %d, want %d", c, left, w, e, ref(before.used))
				}
			}
		}
	}
}

// fill is how many fields an object has with which so many words are taken, or as many of them as may be.
func fill(words int) int {
	switch {
	case words >= 515+3:
		return 512
	case words > 515:
		return 500
	}
	return words - 3
}

func TestNoRoomAheadOfWrongLiterals(t *testing.T) {
	h := made(t, 64)
	object(t, h, slices.Repeat([]api.Word{0}, 52)...) // 8 words are left
	m := method(1, 1)
	m.Lits[0] = ref(2)
	before := stateOf(h)
	if w, e := code.Write(h, 0, m); w != 0 || e != api.ErrMemory || !sameState(before, stateOf(h)) {
		t.Errorf("Write = %d, %d, want 0, ErrMemory", w, e)
	}
	// And a wrong class is ahead of both, as Alloc says.
	if w, e := code.Write(h, ref(2), m); w != 0 || e != api.ErrArg || !sameState(before, stateOf(h)) {
		t.Errorf("Write = %d, %d, want 0, ErrArg", w, e)
	}
}

func TestWriteOfAWrongLiteral(t *testing.T) {
	for _, wrong := range noReferences() {
		for place := range 32 {
			h := made(t, 256)
			first := object(t, h, num(1), num(2))
			m := method(32, 20)
			m.Lits[0] = first
			m.Lits[place] = wrong
			if place < 31 {
				m.Lits[31] = wrong // the first of two ends it
			}
			before := stateOf(h)
			if w, e := code.Write(h, first, m); w != 0 || e != api.ErrArg {
				t.Fatalf("literal %d is %d: Write = %d, %d, want 0, ErrArg", place, wrong, w, e)
			}
			// What was stored before is there; what was not is the integer 0.
			fields := fieldsOf(m)
			for k := 5 + place; k < len(fields); k++ {
				fields[k] = num(0)
			}
			before.objects = append(before.objects, heap.Object{Class: first, Fields: fields})
			before.used += 3 + len(fields)
			if !sameState(before, stateOf(h)) {
				t.Fatalf("literal %d is %d: the heap is %v, want %v", place, wrong, stateOf(h), before)
			}
			if m, e := code.Read(h, ref(6)); e != api.ErrMethod || !empty(m) {
				t.Fatalf("literal %d is %d: Read of what remains = %v, %d", place, wrong, m, e)
			}
		}
	}
}

func TestLiteralsOfEachKind(t *testing.T) {
	h := made(t, 128)
	first := object(t, h, num(1), num(2))
	m := method(0, 2)
	// The last but one is the method's own object, which is there when the literals are stored.
	m.Lits = []api.Word{0, first, num(0), num(-1), 1<<63 - 1, 1<<63 + 1, math.MaxUint64, first, ref(6), 0}
	w, e := code.Write(h, first, m)
	if w != ref(6) || e != api.OK || !slices.Equal(stored(h, w), fieldsOf(m)) {
		t.Fatalf("Write = %d, %d: %v", w, e, stored(h, w))
	}
	if got, e := code.Read(h, w); e != api.OK || !sameMethod(got, m) {
		t.Errorf("Read = %v, %d, want %v", got, e, m)
	}
}

// P4.4

func TestReadOfNoObject(t *testing.T) {
	h := made(t, 256)
	object(t, h, num(1), num(2))
	w, _ := code.Write(h, 0, method(2, 3))
	for _, no := range []api.Word{
		0, num(0), num(1), num(6), w + 1, w - 1, ref(2), ref(3), ref(5), ref(7), ref(8), ref(9), ref(18), ref(19), ref(20), ref(255), ref(256), ref(257),
		1<<32 - 2, 1<<32 + w, 1 << 63, 1<<63 + w, math.MaxUint64, math.MaxUint64 - 1,
	} {
		if m, e := code.Read(h, no); e != api.ErrMethod || !empty(m) {
			t.Errorf("Read(%d) = %v, %d, want none, ErrMethod", no, m, e)
		}
	}
	if _, e := code.Read(h, w); e != api.OK {
		t.Errorf("Read(%d) = %d", w, e)
	}
}

func TestReadLooksAtNoClass(t *testing.T) {
	h := made(t, 64)
	m := method(1, 2)
	w, _ := code.Write(h, 0, m)
	for _, class := range []api.Word{0, num(3), w} {
		h.SetClass(w, class)
		if got, e := code.Read(h, w); e != api.OK || !sameMethod(got, m) {
			t.Errorf("class %d: Read = %v, %d", class, got, e)
		}
	}
}

// wrongFields are no method's. Where it is not said otherwise, they are those of a method with two literals and three instructions, but for one field.
func wrongFields() [][]api.Word {
	right := fieldsOf(method(2, 3))
	with := func(k int, v api.Word) []api.Word {
		fields := slices.Clone(right)
		fields[k] = v
		return fields
	}
	var list [][]api.Word
	for n := range 8 { // too few: the literals alone take 7
		list = append(list, slices.Clone(right[:n]))
	}
	for _, n := range []int{0, 1, 4, 5, 6, 100, 512} {
		list = append(list, slices.Repeat([]api.Word{0}, n), slices.Repeat([]api.Word{num(0)}, n), slices.Repeat([]api.Word{num(24)}, n))
	}
	for k := range 5 { // references and 0, where numbers are asked
		list = append(list, with(k, 0), with(k, ref(1)))
		for _, n := range []int{-1, -2, -1 << 62, 256, 257, 1 << 32, 1<<61 + 1, 1<<62 - 1} {
			list = append(list, with(k, num(n)))
		}
	}
	list = append(list,
		with(0, num(5)), with(0, num(3)), with(1, num(0)), with(1, num(17)), with(2, num(17)), // beyond their bounds
		with(4, num(0)), with(4, num(1)), with(4, num(5)), with(4, num(6)), with(4, num(7)), with(4, num(32)), with(4, num(33)), // more or fewer literals than there are
	)
	for k := 7; k < 10; k++ {
		for _, w := range noInstructions() {
			if w == 0 || w%2 == 1 {
				list = append(list, with(k, w))
			}
		}
		list = append(list, with(k, ref(1)))
	}
	for _, m := range []api.Method{method(0, 129), method(2, 129), method(33, 1), method(33, 128), method(0, 0), method(2, 0), method(0, 507)} {
		list = append(list, fieldsOf(m))
	}
	// One field too many behind the last instruction.
	return append(list, append(slices.Clone(right), num(0)), append(slices.Clone(right), 0), append(slices.Clone(right), ref(1)))
}

func TestReadOfWrongFields(t *testing.T) {
	for _, fields := range wrongFields() {
		h := made(t, 1024)
		object(t, h)
		w := object(t, h, fields...)
		before := stateOf(h)
		if m, e := code.Read(h, w); e != api.ErrMethod || !empty(m) {
			t.Errorf("Read of %v = %v, %d, want none, ErrMethod", fields, m, e)
		}
		if !sameState(before, stateOf(h)) {
			t.Errorf("Read of %v has changed the heap", fields)
		}
	}
}

func TestReadOfOtherLiterals(t *testing.T) {
	// A literal may be anything, also the word of an instruction.
	h := made(t, 64)
	w := object(t, h, num(0), num(0), num(0), num(0), num(2), ins(8, 5, 0), 0, ins(17, 0, 0))
	m, e := code.Read(h, w)
	want := api.Method{Lits: []api.Word{ins(8, 5, 0), 0}, Code: []api.Instr{{Op: 17}}}
	if e != api.OK || !sameMethod(m, want) {
		t.Errorf("Read = %v, %d, want %v", m, e, want)
	}
	// With fewer literals the same fields are another method, with more they are one without an instruction.
	h.Store(w, 6, ins(9, 0, 0))
	for n, right := range []bool{true, true, true, false, false} {
		h.Store(w, 4, num(n))
		m, e := code.Read(h, w)
		if right != (e == api.OK) || right && (len(m.Lits) != n || len(m.Code) != 3-n) || !right && (e != api.ErrMethod || !empty(m)) {
			t.Errorf("%d literals: Read = %v, %d", n, m, e)
		}
	}
}

// P4.5

// dice are numbers that come in the same order in each run.
type dice uint64

func (d *dice) below(n int) int {
	*d = *d*6364136223846793005 + 1442695040888963407
	return int(*d>>33) % n
}

// method is one that may be.
func (d *dice) method() api.Method {
	m := api.Method{Args: d.below(5), Stack: d.below(17), Prim: d.below(256)}
	m.Temps = m.Args + d.below(17-m.Args)
	for range d.below(33) {
		m.Lits = append(m.Lits, num(d.below(100)-50))
	}
	for range 1 + d.below(128) {
		m.Code = append(m.Code, api.Instr{Op: 1 + d.below(23), A: d.below(4096), B: d.below(4096)})
	}
	return m
}

func TestMethodsAreReadAsTheyWereWritten(t *testing.T) {
	d := dice(1)
	for range 2000 {
		h := made(t, 512)
		m, n := d.method(), d.method()
		v, e := code.Write(h, num(1), m)
		w, f := code.Write(h, v, n)
		if e != api.OK || f != api.OK {
			t.Fatalf("Write = %d, %d", e, f)
		}
		got, e := code.Read(h, v)
		also, f := code.Read(h, w)
		if e != api.OK || f != api.OK || !sameMethod(got, m) || !sameMethod(also, n) {
			t.Fatalf("Read = %v, %v, want %v, %v", got, also, m, n)
		}
	}
}

// may: P4.4 and P4.2 over fields, told without the package.
func may(fields []api.Word) bool {
	if len(fields) < 6 {
		return false
	}
	for _, w := range fields[:5] {
		if w%2 == 0 {
			return false
		}
	}
	n := func(k int) int { return int(fields[k]) >> 1 }
	if n(0) < 0 || n(0) > 4 || n(1) < n(0) || n(1) > 16 || n(2) < 0 || n(2) > 16 || n(3) < 0 || n(3) > 255 || n(4) < 0 || n(4) > 32 {
		return false
	}
	instrs := len(fields) - 5 - n(4)
	if instrs < 1 || instrs > 128 {
		return false
	}
	for _, w := range fields[5+n(4):] {
		if k := int(w) >> 1; w%2 == 0 || k < 1 || k >= 1<<30 || k%64 < 1 || k%64 > 23 {
			return false
		}
	}
	return true
}

func TestDifferentFieldsAreDifferentMethods(t *testing.T) {
	// A method's fields, with changes: what is read, if anything, has just these fields.
	accepted, refused := 0, 0
	for seed := range 20000 {
		d := dice(seed)
		fields := fieldsOf(d.method())
		for range 1 + d.below(2) {
			fields = d.disturbed(fields)
		}
		h := made(t, 512)
		object(t, h)
		w := object(t, h, fields...)
		m, e := code.Read(h, w)
		if may(fields) {
			accepted++
			if e != api.OK || code.Check(m) != api.OK || !slices.Equal(fieldsOf(m), fields) {
				t.Fatalf("seed %d: Read of %v = %v, %d", seed, fields, m, e)
			}
			continue
		}
		refused++
		if e != api.ErrMethod || !empty(m) {
			t.Fatalf("seed %d: Read of %v = %v, %d, want none, ErrMethod", seed, fields, m, e)
		}
	}
	if accepted < 2000 || refused < 2000 {
		t.Errorf("%d were accepted and %d refused: too few", accepted, refused)
	}
}

// disturbed are fields with one that is another, one less, or one more.
func (d *dice) disturbed(fields []api.Word) []api.Word {
	words := []api.Word{0, ref(1), num(-1), num(0), num(1), num(d.below(40)), num(d.below(300)), ins(1+d.below(24), d.below(4096), d.below(4097)), num(1<<30 + 5)}
	v := words[d.below(len(words))]
	k := d.below(len(fields))
	if d.below(2) == 0 {
		k = d.below(min(len(fields), 6))
	}
	switch d.below(5) {
	case 0:
		return slices.Delete(fields, k, k+1)
	case 1:
		return slices.Insert(fields, k, v)
	}
	fields[k] = v
	return fields
}
