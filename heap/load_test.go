package heap_test

import (
	"math"
	"slices"
	"testing"

	"tappet/api"
	"tappet/heap"
)

// P2.5

func TestLoad(t *testing.T) {
	h, refs := sample(t)
	h.Hash(refs[0])
	h.SetRoot(refs[2])
	l := []heap.Object{
		{Class: ref(8), Hash: 9},
		{Class: num(3), Fields: []api.Word{ref(8)}},
		{Class: 0, Hash: 2, Fields: []api.Word{ref(1), ref(8), 0, num(-5), ref(4)}},
	}
	load(t, h, l, ref(4), 11)
	want := state{64, 16, 11, ref(4), []api.Word{ref(1), ref(4), ref(8)}, l}
	if !same(stateOf(h), want) {
		t.Errorf("%v, want %v", stateOf(h), want)
	}
	for at := range 64 {
		if h.Has(ref(at)) != slices.Contains(want.refs, ref(at)) {
			t.Errorf("Has(%d) = %v", ref(at), h.Has(ref(at)))
		}
	}
	if n, e := h.Hash(ref(4)); n != 12 || e != api.OK {
		t.Errorf("the next hash = %d, %d, want 12", n, e)
	}
	if n, e := h.Hash(ref(1)); n != 9 || e != api.OK {
		t.Errorf("a loaded hash = %d, %d, want 9", n, e)
	}
	if w := put(t, h, ref(4), 1, ref(8)); w != ref(16) || h.Used() != 20 {
		t.Errorf("Alloc after Load = %d, %d used", w, h.Used())
	}
}

func TestLoadOfNothing(t *testing.T) {
	for _, l := range [][]heap.Object{nil, {}} {
		for _, hashes := range []int{0, 1, lastHash} {
			h, _ := sample(t)
			h.SetRoot(ref(6))
			load(t, h, l, 0, hashes)
			if !same(stateOf(h), state{words: 64, used: 1, hashes: hashes}) {
				t.Errorf("Load of nothing: %v", stateOf(h))
			}
			if h.Has(ref(1)) || h.Has(ref(6)) || h.SetRoot(ref(1)) != api.ErrArg {
				t.Error("Load of nothing leaves objects")
			}
			if w := put(t, h, 0, 60, 0); w != ref(1) || h.Used() != 64 {
				t.Errorf("Alloc after Load of nothing = %d, %d used", w, h.Used())
			}
		}
	}
}

// loadFails asks for an error, and for the heap as it was.
func loadFails(t *testing.T, what string, words int, l []heap.Object, root api.Word, hashes int, want api.Errno) {
	t.Helper()
	h := made(t, words)
	a := put(t, h, num(5), 3, num(6))
	h.Hash(a)
	h.SetRoot(a)
	unchanged(t, h, what, func() {
		if e := h.Load(l, root, hashes); e != want {
			t.Errorf("%s: Load = %d, want %d", what, e, want)
		}
	})
	if v, e := h.Fetch(a, 2); v != num(6) || e != api.OK || h.Has(ref(4)) || h.Has(ref(7)) {
		t.Errorf("%s: after the error, Fetch = %d, %d", what, v, e)
	}
}

func TestLoadHashes(t *testing.T) {
	good := []struct {
		hashes int
		of     []int
	}{
		{0, []int{0, 0, 0}},
		{1, []int{0, 1, 0}},
		{3, []int{3, 1, 2}},
		{3, []int{0, 0, 0}},
		{lastHash, []int{lastHash, 0, 1}},
		{lastHash, []int{lastHash - 1, 5, 4}},
	}
	for _, c := range good {
		h := made(t, 64)
		l := hashed(c.of)
		load(t, h, l, 0, c.hashes)
		if !sameObjects(h.Dump(), l) || h.Hashes() != c.hashes {
			t.Errorf("hashes %v of %d: %v of %d", c.of, c.hashes, h.Dump(), h.Hashes())
		}
	}
	wrong := []struct {
		hashes int
		of     []int
	}{
		{0, []int{1}},
		{0, []int{0, 0, 1}},
		{2, []int{1, 3}},
		{2, []int{-1}},
		{2, []int{1, 2, -1}},
		{2, []int{math.MinInt}},
		{2, []int{math.MaxInt}},
		{2, []int{1, 1}},
		{3, []int{2, 0, 2}},
		{9, []int{1, 2, 3, 4, 5, 4}},
		{lastHash, []int{lastHash, lastHash}},
		{lastHash, []int{1 << 40}},
		{1 << 40, []int{1 << 40}},
	}
	for _, c := range wrong {
		loadFails(t, "wrong hashes", 64, hashed(c.of), 0, c.hashes, api.ErrArg)
	}
	for _, hashes := range []int{-1, math.MinInt, 1 << 40, 1<<40 + 1, 1 << 62, math.MaxInt} {
		loadFails(t, "a wrong number of hashes", 64, nil, 0, hashes, api.ErrArg)
		loadFails(t, "a wrong number of hashes", 64, []heap.Object{{}}, 0, hashes, api.ErrArg)
	}
}

// hashed are objects without fields that have these hashes.
func hashed(of []int) []heap.Object {
	l := make([]heap.Object, len(of))
	for k, n := range of {
		l[k].Hash = n
	}
	return l
}

func TestLoadWords(t *testing.T) {
	// Objects at the words 1, 6 and 9; 14 words are used.
	objects := func() []heap.Object {
		return []heap.Object{{Fields: make([]api.Word, 2)}, {}, {Fields: make([]api.Word, 2)}}
	}
	for _, w := range []api.Word{0, num(0), num(-1), 1<<63 + 1, ref(1), ref(6), ref(9)} {
		for k := range 3 {
			l := objects()
			l[k].Class = w
			for j := range l[k].Fields {
				l[k].Fields[j] = w
			}
			h := made(t, 64)
			load(t, h, l, 0, 0)
			if !sameObjects(h.Dump(), l) {
				t.Errorf("%v, want %v", h.Dump(), l)
			}
		}
	}
	for _, w := range notValid() {
		for k := range 3 {
			l := objects()
			l[k].Class = w
			loadFails(t, "a class that leads nowhere", 64, l, ref(1), 0, api.ErrArg)
			for j := range l[k].Fields {
				l := objects()
				l[k].Fields[j] = w
				loadFails(t, "a field that leads nowhere", 64, l, ref(1), 0, api.ErrArg)
			}
		}
	}
	for _, w := range noObjects() {
		if w == 0 {
			continue
		}
		loadFails(t, "a root that leads nowhere", 64, objects(), w, 0, api.ErrArg)
		loadFails(t, "a root of nothing", 64, nil, w, 0, api.ErrArg)
	}
	for _, root := range []api.Word{0, ref(1), ref(6), ref(9)} {
		h := made(t, 64)
		load(t, h, objects(), root, 0)
		if h.Root() != root {
			t.Errorf("Root = %d, want %d", h.Root(), root)
		}
	}
}

func TestLoadHoldsAgainstTheNewObjects(t *testing.T) {
	// The words lead to objects that are there before Load and not after it.
	loadFails(t, "a class of old", 64, []heap.Object{{Fields: make([]api.Word, 1)}, {Class: ref(4)}}, 0, 0, api.ErrArg)
	loadFails(t, "a root of old", 64, nil, ref(1), 0, api.ErrArg)
	h, _ := sample(t)
	load(t, h, []heap.Object{{}, {Class: ref(1), Fields: []api.Word{ref(4)}}}, ref(4), 0)
	if h.Has(ref(6)) || h.Has(ref(9)) || !h.Has(ref(4)) {
		t.Error("objects of old are still there")
	}
}

func TestLoadRoom(t *testing.T) {
	large := func(n, size int) []heap.Object {
		l := make([]heap.Object, n)
		for k := range l {
			l[k].Fields = slices.Repeat([]api.Word{num(k)}, size)
		}
		return l
	}
	for _, c := range []struct{ words, n, size int }{
		{64, 21, 0}, {64, 1, 60}, {64, 3, 18}, {65, 16, 1}, {516, 1, 512}, {65536, 21845, 0}, {65536, 127, 512}, {65536, 13107, 2},
	} {
		h := made(t, c.words)
		l := large(c.n, c.size)
		load(t, h, l, 0, 0)
		if h.Used() != 1+c.n*(3+c.size) || !sameObjects(h.Dump(), l) {
			t.Errorf("%v: %d used", c, h.Used())
		}
	}
	for _, c := range []struct{ words, n, size int }{
		{64, 22, 0}, {64, 1, 61}, {64, 3, 19}, {64, 16, 1}, {515, 1, 512}, {65535, 21845, 0}, {65536, 21846, 0}, {65536, 128, 512}, {64, 200000, 0},
	} {
		loadFails(t, "no room", c.words, large(c.n, c.size), 0, 0, api.ErrMemory)
	}
}

func TestLoadTooManyFields(t *testing.T) {
	h := made(t, 4096)
	load(t, h, []heap.Object{{Fields: make([]api.Word, 512)}}, 0, 0)
	if n, e := h.Size(ref(1)); n != 512 || e != api.OK {
		t.Errorf("Size = %d, %d", n, e)
	}
	for _, n := range []int{513, 514, 4000, 5000, 100000} {
		loadFails(t, "too many fields", 4096, []heap.Object{{Fields: make([]api.Word, n)}}, 0, 0, api.ErrArg)
		loadFails(t, "too many fields", 4096, []heap.Object{{}, {Fields: make([]api.Word, n)}, {}}, 0, 0, api.ErrArg)
	}
}

func TestLoadFirstErrorFirst(t *testing.T) {
	// Too many fields, in the last object, come ahead of no room; no room comes ahead of all else.
	l := make([]heap.Object, 30)
	l[29].Fields = make([]api.Word, 513)
	loadFails(t, "too many fields and no room", 64, l, 0, 0, api.ErrArg)
	l = make([]heap.Object, 30)
	l[0].Class, l[1].Hash, l[2].Hash, l[3].Fields = ref(2), 5, -1, []api.Word{1 << 40}
	loadFails(t, "no room and all else", 64, l, num(1), -1, api.ErrMemory)
	loadFails(t, "no room and a wrong number of hashes", 64, make([]heap.Object, 22), 0, 1<<40, api.ErrMemory)
	loadFails(t, "no room and a wrong root", 64, make([]heap.Object, 22), 3, 0, api.ErrMemory)
}

func TestLoadKeepsNothing(t *testing.T) {
	h := made(t, 64)
	shared := []api.Word{num(1), num(2), num(3), num(4)}
	l := []heap.Object{{Fields: shared[:2]}, {Fields: shared[:4]}, {Fields: shared[1:3]}}
	load(t, h, l, 0, 0)
	want := []heap.Object{
		{Fields: []api.Word{num(1), num(2)}},
		{Fields: []api.Word{num(1), num(2), num(3), num(4)}},
		{Fields: []api.Word{num(2), num(3)}},
	}
	shared[1] = 1 << 40
	l[0], l[1].Class = heap.Object{Class: 1 << 41}, 1<<42
	if !sameObjects(h.Dump(), want) {
		t.Errorf("what was handed in and changed afterwards is in the heap: %v", h.Dump())
	}
	h.Store(ref(1), 0, num(9))
	want[0].Fields[0] = num(9)
	if shared[0] != num(1) || !sameObjects(h.Dump(), want) {
		t.Errorf("objects share fields: %v, %v", shared, h.Dump())
	}
}

func TestLoadLeavesItsArguments(t *testing.T) {
	fields := append(make([]api.Word, 0, 8), num(1), ref(1))
	l := append(make([]heap.Object, 0, 4), heap.Object{Class: ref(1), Hash: 1, Fields: fields})
	for _, root := range []api.Word{ref(1), ref(2)} { // the second one is an error
		made(t, 64).Load(l, root, 1)
		if !sameObjects(l, []heap.Object{{Class: ref(1), Hash: 1, Fields: []api.Word{num(1), ref(1)}}}) {
			t.Errorf("Load has changed its list: %v", l)
		}
		if rest := fields[2:8]; slices.Max(rest) != 0 || l[:4][1].Fields != nil {
			t.Errorf("Load has written behind its list: %v", rest)
		}
	}
}
