package heap_test

import (
	"math"
	"reflect"
	"slices"
	"testing"

	"tappet/api"
	"tappet/heap"
)

const lastHash = 1<<40 - 1

// ref and num are words, worked out from chapter 1's sentences.
func ref(at int) api.Word { return api.Word(2 * at) }
func num(n int) api.Word  { return api.Word(2*n + 1) }

// made is a new heap.
func made(t *testing.T, words int) *heap.Heap {
	t.Helper()
	h, e := heap.New(words)
	if e != api.OK || h == nil {
		t.Fatalf("New(%d) = %v, %d", words, h, e)
	}
	return h
}

// put is an object that has to be made.
func put(t *testing.T, h *heap.Heap, class api.Word, size int, fill api.Word) api.Word {
	t.Helper()
	w, e := h.Alloc(class, size, fill)
	if e != api.OK {
		t.Fatalf("Alloc(%d, %d, %d) = error %d", class, size, fill, e)
	}
	return w
}

// load is what has to be loaded.
func load(t *testing.T, h *heap.Heap, l []heap.Object, root api.Word, hashes int) {
	t.Helper()
	if e := h.Load(l, root, hashes); e != api.OK {
		t.Fatalf("Load(%v, %d, %d) = error %d", l, root, hashes, e)
	}
}

// state is all that can be read of a heap without changing it.
type state struct {
	words, used, hashes int
	root                api.Word
	refs                []api.Word
	objects             []heap.Object
}

func stateOf(h *heap.Heap) state {
	return state{h.Words(), h.Used(), h.Hashes(), h.Root(), h.Objects(), h.Dump()}
}

// same: do two heaps read the same? A list without elements may be nil or not.
func same(a, b state) bool {
	return a.words == b.words && a.used == b.used && a.hashes == b.hashes && a.root == b.root &&
		slices.Equal(a.refs, b.refs) && sameObjects(a.objects, b.objects)
}

func sameObjects(a, b []heap.Object) bool {
	return slices.EqualFunc(a, b, func(x, y heap.Object) bool {
		return x.Class == y.Class && x.Hash == y.Hash && slices.Equal(x.Fields, y.Fields)
	})
}

// unchanged runs something that must leave the heap as it is.
func unchanged(t *testing.T, h *heap.Heap, what string, run func()) {
	t.Helper()
	before := stateOf(h)
	run()
	if after := stateOf(h); !same(before, after) {
		t.Errorf("%s changed the heap: %v before, %v after", what, before, after)
	}
}

// sample is a heap with objects at the words 1, 6 and 9; 14 words are used.
func sample(t *testing.T) (*heap.Heap, []api.Word) {
	t.Helper()
	h := made(t, 64)
	a := put(t, h, 0, 2, num(0))
	b := put(t, h, a, 0, 0)
	c := put(t, h, b, 2, a)
	return h, []api.Word{a, b, c}
}

// noObjects are words that lead to no object of the sample: none, integers, the middle of objects, behind the last one, and no references at all.
func noObjects() []api.Word {
	return []api.Word{
		0, 1, 3, 13, 19, math.MaxUint64, 1<<63 + 1,
		ref(2), ref(3), ref(4), ref(5), ref(7), ref(8), ref(10), ref(13),
		ref(14), ref(15), ref(63), ref(64), ref(65), ref(65536), 1<<32 - 2, 1 << 32, 1<<32 + 2, 1<<32 + ref(6),
		1 << 63, 1<<63 + ref(6), math.MaxUint64 - 1,
	}
}

// notValid are those of them that are neither integers nor 0.
func notValid() []api.Word {
	return slices.DeleteFunc(noObjects(), func(w api.Word) bool { return w == 0 || w%2 == 1 })
}

// P2.1

func TestNew(t *testing.T) {
	for _, words := range []int{64, 65, 100, 4096, 65535, 65536} {
		h := made(t, words)
		if !same(stateOf(h), state{words: words, used: 1}) {
			t.Errorf("New(%d): %v", words, stateOf(h))
		}
		for w := range api.Word(300) {
			if h.Has(w) {
				t.Errorf("New(%d) has %d", words, w)
			}
		}
	}
	for _, words := range []int{math.MinInt, -65536, -64, -1, 0, 1, 62, 63, 65537, 65538, 1 << 20, 1<<32 + 64, math.MaxInt} {
		if h, e := heap.New(words); h != nil || e != api.ErrArg {
			t.Errorf("New(%d) = %v, %d, want nil, ErrArg", words, h, e)
		}
	}
}

func TestHeapsAreApart(t *testing.T) {
	h, g := made(t, 64), made(t, 64)
	a := put(t, h, 0, 1, num(1))
	h.Hash(a)
	h.SetRoot(a)
	if !same(stateOf(g), state{words: 64, used: 1}) {
		t.Errorf("a second heap: %v", stateOf(g))
	}
}

func TestNoHeap(t *testing.T) {
	for name, h := range map[string]*heap.Heap{"nil": nil, "empty": {}} {
		for range 2 { // the second time shows whether the first one left something
			if !same(stateOf(h), state{}) {
				t.Errorf("%s heap: %v", name, stateOf(h))
			}
			for _, w := range append(noObjects(), ref(1), ref(6)) {
				checkNoObject(t, name, h, w)
			}
			for _, size := range []int{math.MinInt, -1, 0, 1, 512, 513, math.MaxInt} {
				if w, e := h.Alloc(0, size, 0); w != 0 || e != api.ErrArg {
					t.Errorf("%s heap: Alloc(0, %d, 0) = %d, %d, want 0, ErrArg", name, size, w, e)
				}
			}
			large := make([]heap.Object, 65536)
			for _, l := range [][]heap.Object{nil, {}, {{}}, {{Class: 2, Fields: []api.Word{1}}}, large} {
				if e := h.Load(l, 0, 0); e != api.ErrArg {
					t.Errorf("%s heap: Load of %d objects = %d, want ErrArg", name, len(l), e)
				}
			}
		}
	}
}

// checkNoObject asks all that takes an object for one that is none.
func checkNoObject(t *testing.T, name string, h *heap.Heap, w api.Word) {
	t.Helper()
	if h.Has(w) {
		t.Errorf("%s: Has(%d)", name, w)
	}
	if n, e := h.Size(w); n != 0 || e != api.ErrArg {
		t.Errorf("%s: Size(%d) = %d, %d, want 0, ErrArg", name, w, n, e)
	}
	if c, e := h.Class(w); c != 0 || e != api.ErrArg {
		t.Errorf("%s: Class(%d) = %d, %d, want 0, ErrArg", name, w, c, e)
	}
	if n, e := h.Hash(w); n != 0 || e != api.ErrArg {
		t.Errorf("%s: Hash(%d) = %d, %d, want 0, ErrArg", name, w, n, e)
	}
	if e := h.SetClass(w, 0); e != api.ErrArg {
		t.Errorf("%s: SetClass(%d, 0) = %d, want ErrArg", name, w, e)
	}
	if e := h.SetRoot(w); e != api.ErrArg {
		t.Errorf("%s: SetRoot(%d) = %d, want ErrArg", name, w, e)
	}
	for _, k := range []int{-1, 0, 1} {
		if v, e := h.Fetch(w, k); v != 0 || e != api.ErrArg {
			t.Errorf("%s: Fetch(%d, %d) = %d, %d, want 0, ErrArg", name, w, k, v, e)
		}
		if e := h.Store(w, k, 0); e != api.ErrArg {
			t.Errorf("%s: Store(%d, %d, 0) = %d, want ErrArg", name, w, k, e)
		}
	}
}

// P2.2

func TestExample(t *testing.T) {
	h := made(t, 64)
	if w, e := h.Alloc(0, 2, 1); w != 2 || e != api.OK {
		t.Errorf("the first Alloc = %d, %d", w, e)
	}
	if w, e := h.Alloc(2, 0, 0); w != 12 || e != api.OK {
		t.Errorf("the second Alloc = %d, %d", w, e)
	}
	if h.Used() != 9 {
		t.Errorf("Used = %d", h.Used())
	}
	if v, e := h.Fetch(2, 2); v != 0 || e != api.ErrArg {
		t.Errorf("Fetch(2, 2) = %d, %d", v, e)
	}
	for _, c := range []struct {
		w api.Word
		n int
	}{{12, 1}, {2, 2}, {12, 1}} {
		if n, e := h.Hash(c.w); n != c.n || e != api.OK {
			t.Errorf("Hash(%d) = %d, %d, want %d", c.w, n, e, c.n)
		}
	}
}

func TestAlloc(t *testing.T) {
	h := made(t, 2000)
	a := put(t, h, 0, 0, 0)
	var want []heap.Object
	want = append(want, heap.Object{})
	used := 4
	for _, size := range []int{0, 1, 2, 64, 511, 512} {
		for _, c := range []struct{ class, fill api.Word }{{0, num(-3)}, {a, 0}} {
			w, e := h.Alloc(c.class, size, c.fill)
			if w != ref(used) || e != api.OK {
				t.Fatalf("Alloc(%d, %d, %d) = %d, %d, want %d", c.class, size, c.fill, w, e, ref(used))
			}
			want = append(want, heap.Object{Class: c.class, Fields: slices.Repeat([]api.Word{c.fill}, size)})
			used += 3 + size
			if h.Used() != used || h.Hashes() != 0 || h.Root() != 0 || h.Words() != 2000 {
				t.Fatalf("after Alloc of %d: %d used, %d hashes, root %d, %d words", size, h.Used(), h.Hashes(), h.Root(), h.Words())
			}
			if size > 2 {
				break // both of the greater ones would not fit
			}
		}
	}
	if !sameObjects(h.Dump(), want) {
		t.Errorf("%v, want %v", h.Dump(), want)
	}
}

func TestAllocOfEachKindOfWord(t *testing.T) {
	words := []api.Word{0, num(0), num(1), num(-1), 1<<63 - 1, 1<<63 + 1, ref(1), ref(6), ref(9)}
	for _, class := range words {
		for _, fill := range words {
			h, _ := sample(t)
			w := put(t, h, class, 3, fill)
			want := heap.Object{Class: class, Fields: []api.Word{fill, fill, fill}}
			if l := h.Dump(); w != ref(14) || len(l) != 4 || !sameObjects(l[3:], []heap.Object{want}) {
				t.Errorf("Alloc(%d, 3, %d) = %d: %v", class, fill, w, l)
			}
		}
	}
}

func TestAllocWrongInputs(t *testing.T) {
	h, _ := sample(t)
	fails := func(class api.Word, size int, fill api.Word) {
		t.Helper()
		unchanged(t, h, "Alloc", func() {
			if w, e := h.Alloc(class, size, fill); w != 0 || e != api.ErrArg {
				t.Errorf("Alloc(%d, %d, %d) = %d, %d, want 0, ErrArg", class, size, fill, w, e)
			}
		})
	}
	for _, size := range []int{math.MinInt, math.MinInt + 1, -513, -3, -2, -1, 513, 514, 1 << 32, math.MaxInt - 3, math.MaxInt} {
		fails(0, size, 0)
	}
	// ErrArg is named ahead of ErrMemory: it comes also where there is no room (50 words are left).
	for _, w := range notValid() {
		for _, size := range []int{0, 1, 47, 48, 512} {
			fails(w, size, 0)
			fails(0, size, w)
			fails(w, size, w)
		}
	}
}

func TestAllocRoom(t *testing.T) {
	for _, words := range []int{64, 65, 100, 515, 516, 517} {
		for size := range min(words, 513) {
			h := made(t, words)
			w, e := h.Alloc(0, size, num(7))
			if 1+3+size > words {
				if w != 0 || e != api.ErrMemory || h.Used() != 1 {
					t.Errorf("%d words: Alloc of %d = %d, %d, %d used, want ErrMemory", words, size, w, e, h.Used())
				}
				continue
			}
			if w != ref(1) || e != api.OK || h.Used() != 4+size {
				t.Errorf("%d words: Alloc of %d = %d, %d, %d used", words, size, w, e, h.Used())
			}
		}
	}
}

func TestAllocTillFull(t *testing.T) {
	for _, words := range []int{64, 65, 66, 67, 65534, 65535, 65536} {
		for _, size := range []int{0, 1, 512} {
			h := made(t, words)
			n := 0
			for h.Used()+3+size <= words {
				put(t, h, 0, size, num(n))
				n++
			}
			unchanged(t, h, "Alloc without room", func() {
				if w, e := h.Alloc(0, size, 0); w != 0 || e != api.ErrMemory {
					t.Errorf("%d words with %d objects of %d: Alloc = %d, %d, want 0, ErrMemory", words, n, size, w, e)
				}
			})
			if n != (words-1)/(3+size) || len(h.Objects()) != n || h.Used() != 1+n*(3+size) {
				t.Errorf("%d words hold %d objects of %d", words, n, size)
			}
		}
	}
}

func TestLastWordIsUsed(t *testing.T) {
	h := made(t, 64)
	put(t, h, 0, 30, 0) // 34 used
	if w, e := h.Alloc(0, 28, 0); w != 0 || e != api.ErrMemory {
		t.Errorf("Alloc of 28 into 30 words = %d, %d, want ErrMemory", w, e)
	}
	w := put(t, h, 0, 27, num(1))
	if h.Used() != 64 || w != ref(34) {
		t.Errorf("%d used, the last object at %d", h.Used(), w)
	}
	if e := h.Store(w, 26, num(2)); e != api.OK {
		t.Errorf("Store into the last word = %d", e)
	}
	if v, e := h.Fetch(w, 26); v != num(2) || e != api.OK {
		t.Errorf("Fetch of the last word = %d, %d", v, e)
	}
}

// P2.3

func TestHas(t *testing.T) {
	h, refs := sample(t)
	for w := range api.Word(1000) {
		if h.Has(w) != slices.Contains(refs, w) {
			t.Errorf("Has(%d) = %v", w, h.Has(w))
		}
	}
	for _, w := range noObjects() {
		unchanged(t, h, "a word that leads nowhere", func() { checkNoObject(t, "sample", h, w) })
	}
}

func TestFieldsThatLookLikeHeads(t *testing.T) {
	// What an object's fields hold must not be taken for an object's head.
	h := made(t, 64)
	a := put(t, h, 0, 6, num(0))
	for k := range 6 {
		h.Store(a, k, a)
	}
	for at := 2; at < 64; at++ {
		checkNoObject(t, "fields", h, ref(at))
	}
}

func TestSizeAndClass(t *testing.T) {
	h, refs := sample(t)
	for k, want := range []struct {
		size  int
		class api.Word
	}{{2, 0}, {0, refs[0]}, {2, refs[1]}} {
		if n, e := h.Size(refs[k]); n != want.size || e != api.OK {
			t.Errorf("Size(%d) = %d, %d, want %d", refs[k], n, e, want.size)
		}
		if c, e := h.Class(refs[k]); c != want.class || e != api.OK {
			t.Errorf("Class(%d) = %d, %d, want %d", refs[k], c, e, want.class)
		}
	}
}

func TestSetClass(t *testing.T) {
	h, refs := sample(t)
	for _, w := range refs {
		for _, class := range append([]api.Word{num(0), num(-5), num(1 << 61), 0}, refs...) {
			if e := h.SetClass(w, class); e != api.OK {
				t.Errorf("SetClass(%d, %d) = %d", w, class, e)
			}
			if c, e := h.Class(w); c != class || e != api.OK {
				t.Errorf("after SetClass(%d, %d): Class = %d, %d", w, class, c, e)
			}
		}
		for _, class := range notValid() {
			unchanged(t, h, "SetClass to a word that is not valid", func() {
				if e := h.SetClass(w, class); e != api.ErrArg {
					t.Errorf("SetClass(%d, %d) = %d, want ErrArg", w, class, e)
				}
			})
		}
	}
	want := []heap.Object{
		{Class: refs[2], Fields: []api.Word{num(0), num(0)}},
		{Class: refs[2]},
		{Class: refs[2], Fields: []api.Word{refs[0], refs[0]}},
	}
	if !sameObjects(h.Dump(), want) {
		t.Errorf("%v, want %v", h.Dump(), want)
	}
}

func TestFetchAndStore(t *testing.T) {
	h, refs := sample(t)
	for _, w := range []api.Word{refs[0], refs[2]} {
		for k := range 2 {
			for _, v := range append([]api.Word{num(0), num(-1), 1<<63 + 1, 1<<63 - 1, 0}, refs...) {
				if e := h.Store(w, k, v); e != api.OK {
					t.Errorf("Store(%d, %d, %d) = %d", w, k, v, e)
				}
				if got, e := h.Fetch(w, k); got != v || e != api.OK {
					t.Errorf("after Store(%d, %d, %d): Fetch = %d, %d", w, k, v, got, e)
				}
			}
			for _, v := range notValid() {
				unchanged(t, h, "Store of a word that is not valid", func() {
					if e := h.Store(w, k, v); e != api.ErrArg {
						t.Errorf("Store(%d, %d, %d) = %d, want ErrArg", w, k, v, e)
					}
				})
			}
		}
	}
	want := []heap.Object{
		{Fields: []api.Word{refs[2], refs[2]}},
		{Class: refs[0]},
		{Class: refs[1], Fields: []api.Word{refs[2], refs[2]}},
	}
	if !sameObjects(h.Dump(), want) {
		t.Errorf("%v, want %v", h.Dump(), want)
	}
}

func TestFieldNumbers(t *testing.T) {
	for _, size := range []int{0, 1, 2, 512} {
		h := made(t, 2000)
		put(t, h, 0, 5, num(1))
		w := put(t, h, 0, size, num(2))
		put(t, h, 0, 5, num(3))
		for _, k := range []int{math.MinInt, -4, -3, -2, -1, 0, 1, size - 1, size, size + 1, size + 3, 511, 512, 1 << 32, math.MaxInt} {
			if k >= 0 && k < size {
				if v, e := h.Fetch(w, k); v != num(2) || e != api.OK {
					t.Errorf("size %d: Fetch(%d) = %d, %d", size, k, v, e)
				}
				if e := h.Store(w, k, num(2)); e != api.OK {
					t.Errorf("size %d: Store(%d) = %d", size, k, e)
				}
				continue
			}
			unchanged(t, h, "a field that is none", func() {
				if v, e := h.Fetch(w, k); v != 0 || e != api.ErrArg {
					t.Errorf("size %d: Fetch(%d) = %d, %d, want 0, ErrArg", size, k, v, e)
				}
				if e := h.Store(w, k, num(9)); e != api.ErrArg {
					t.Errorf("size %d: Store(%d) = %d, want ErrArg", size, k, e)
				}
			})
		}
	}
}

func TestHashInOrderOfRequests(t *testing.T) {
	h, refs := sample(t)
	for k, w := range []api.Word{refs[2], refs[0], refs[1]} {
		if h.Hashes() != k {
			t.Errorf("Hashes = %d, want %d", h.Hashes(), k)
		}
		for range 3 {
			if n, e := h.Hash(w); n != k+1 || e != api.OK {
				t.Errorf("Hash(%d) = %d, %d, want %d", w, n, e, k+1)
			}
		}
	}
	if h.Hashes() != 3 {
		t.Errorf("Hashes = %d, want 3", h.Hashes())
	}
	w := put(t, h, 0, 1, 0)
	if n, e := h.Hash(w); n != 4 || e != api.OK {
		t.Errorf("Hash of the fourth = %d, %d", n, e)
	}
}

func TestHashChangesNothingElse(t *testing.T) {
	h, refs := sample(t)
	want := stateOf(h)
	h.Hash(refs[1])
	want.hashes, want.objects[1].Hash = 1, 1
	if !same(stateOf(h), want) {
		t.Errorf("%v, want %v", stateOf(h), want)
	}
	unchanged(t, h, "a second Hash", func() { h.Hash(refs[1]) })
	h.SetClass(refs[1], num(4))
	h.Store(refs[0], 1, refs[1])
	if n, e := h.Hash(refs[1]); n != 1 || e != api.OK {
		t.Errorf("Hash after other changes = %d, %d", n, e)
	}
}

func TestHashAtTheLastOne(t *testing.T) {
	h := made(t, 64)
	load(t, h, []heap.Object{{Hash: 7}, {}, {}}, 0, lastHash-1)
	if n, e := h.Hash(ref(4)); n != lastHash || e != api.OK || h.Hashes() != lastHash {
		t.Errorf("the last hash = %d, %d, %d assigned", n, e, h.Hashes())
	}
	unchanged(t, h, "Hash behind the last one", func() {
		if n, e := h.Hash(ref(7)); n != 0 || e != api.ErrMemory {
			t.Errorf("Hash behind the last one = %d, %d, want 0, ErrMemory", n, e)
		}
		for at, want := range map[int]int{1: 7, 4: lastHash} {
			if n, e := h.Hash(ref(at)); n != want || e != api.OK {
				t.Errorf("Hash of one that has it = %d, %d, want %d", n, e, want)
			}
		}
		if n, e := h.Hash(ref(2)); n != 0 || e != api.ErrArg {
			t.Errorf("Hash of none = %d, %d, want 0, ErrArg", n, e)
		}
	})
}

// P2.4

func TestRoot(t *testing.T) {
	h, refs := sample(t)
	if h.Root() != 0 {
		t.Errorf("Root = %d ahead of SetRoot", h.Root())
	}
	for _, w := range append(refs, refs[0]) {
		if e := h.SetRoot(w); e != api.OK || h.Root() != w {
			t.Errorf("SetRoot(%d) = %d, Root = %d", w, e, h.Root())
		}
	}
	for _, w := range noObjects() {
		if e := h.SetRoot(w); e != api.ErrArg || h.Root() != refs[0] {
			t.Errorf("SetRoot(%d) = %d, Root = %d, want ErrArg, %d", w, e, h.Root(), refs[0])
		}
	}
}

func TestObjectsAndDump(t *testing.T) {
	h, refs := sample(t)
	h.Hash(refs[2])
	if !slices.Equal(h.Objects(), []api.Word{ref(1), ref(6), ref(9)}) {
		t.Errorf("Objects = %v", h.Objects())
	}
	want := []heap.Object{
		{Class: 0, Fields: []api.Word{num(0), num(0)}},
		{Class: ref(1)},
		{Class: ref(6), Hash: 1, Fields: []api.Word{ref(1), ref(1)}},
	}
	if !sameObjects(h.Dump(), want) {
		t.Errorf("Dump = %v", h.Dump())
	}
}

func TestListsHandedOutAreApart(t *testing.T) {
	h, _ := sample(t)
	unchanged(t, h, "changing lists that were handed out", func() {
		refs := h.Objects()
		refs[0] = 99
		_ = append(refs[:1], 98)
		l := h.Dump()
		l[0].Class, l[0].Hash = 97, 96
		l[0].Fields[0], l[0].Fields[1] = 95, 94
		for k := range l {
			_ = append(l[k].Fields, 93, 92, 91, 90)
			_ = append(l[k].Fields[:0], 89)
		}
		if !reflect.DeepEqual(h.Objects(), []api.Word{ref(1), ref(6), ref(9)}) {
			t.Errorf("Objects = %v", h.Objects())
		}
	})
	before, old := h.Dump(), h.Objects()
	kept := h.Dump()
	h.Store(ref(1), 0, num(50))
	h.SetClass(ref(1), num(51))
	put(t, h, 0, 0, 0)
	if !sameObjects(before, kept) || len(old) != 3 {
		t.Errorf("a list that was handed out has changed: %v", before)
	}
}

func TestDumpedFieldsAreApart(t *testing.T) {
	h := made(t, 64)
	for range 4 {
		put(t, h, 0, 2, num(1))
	}
	l := h.Dump()
	for k := range l {
		_ = append(l[k].Fields, num(2), num(2), num(2))
		l[k].Fields[0] = num(k)
	}
	for k := range l {
		if !slices.Equal(l[k].Fields, []api.Word{num(k), num(1)}) {
			t.Errorf("the fields of object %d are %v", k, l[k].Fields)
		}
	}
}
