package image_test

import (
	"bytes"
	"encoding/binary"
	"slices"
	"testing"

	"tappet/api"
	"tappet/heap"
	"tappet/image"
)

// P6.3

// dice are numbers that come in the same order in each run.
type dice uint64

func (d *dice) below(n int) int {
	*d = *d*6364136223846793005 + 1442695040888963407
	return int(*d>>33) % n
}

// heap is one with random objects, references among them, hashes and a root.
func (d *dice) heap(t *testing.T, words int) *heap.Heap {
	t.Helper()
	h := held(t, words, nil, 0, 0)
	for range d.below(12) {
		h.Alloc(d.word(h), d.below(6), d.word(h))
	}
	refs := h.Objects()
	for range 2 * len(refs) {
		w := refs[d.below(len(refs))]
		h.SetClass(w, d.word(h))
		if size, _ := h.Size(w); size > 0 {
			h.Store(w, d.below(size), d.word(h))
		}
		if d.below(4) == 0 {
			h.Hash(w)
		}
		if d.below(4) == 0 {
			h.SetRoot(w)
		}
	}
	return h
}

// word is a valid one.
func (d *dice) word(h *heap.Heap) api.Word {
	refs := h.Objects()
	switch kind := d.below(6); {
	case kind == 0:
		return 0
	case kind == 1:
		return []api.Word{num(greatest), num(least), num(0), num(-1)}[d.below(4)]
	case kind == 2 || len(refs) == 0:
		return num(d.below(2000) - 1000)
	}
	return refs[d.below(len(refs))]
}

func TestRoundTrip(t *testing.T) {
	for seed := range 400 {
		d := dice(seed)
		h := d.heap(t, 64+d.below(100))
		b := image.Encode(h)
		if !bytes.Equal(b, told(h.Dump(), h.Root(), h.Hashes())) {
			t.Fatalf("seed %d: %v", seed, b)
		}
		g := accepted(t, b, h.Words())
		if !same(stateOf(g), stateOf(h)) {
			t.Fatalf("seed %d: %v, want %v", seed, stateOf(g), stateOf(h))
		}
		alike(t, seed, h, g)
	}
}

// alike does the same to both, which has to be answered in the same way: the one heap goes on as the other.
func alike(t *testing.T, seed int, h, g *heap.Heap) {
	t.Helper()
	for w := range api.Word(2*h.Words() + 8) {
		if h.Has(w) != g.Has(w) {
			t.Fatalf("seed %d: Has(%d) = %v", seed, w, g.Has(w))
		}
		n, e := h.Hash(w)
		if m, f := g.Hash(w); m != n || f != e {
			t.Fatalf("seed %d: Hash(%d) = %d, %d, want %d, %d", seed, w, m, f, n, e)
		}
	}
	for size := range 20 {
		w, e := h.Alloc(h.Root(), size, 0)
		if v, f := g.Alloc(h.Root(), size, 0); v != w || f != e {
			t.Fatalf("seed %d: Alloc of %d = %d, %d, want %d, %d", seed, size, v, f, w, e)
		}
	}
	if !same(stateOf(g), stateOf(h)) {
		t.Fatalf("seed %d: %v, want %v", seed, stateOf(g), stateOf(h))
	}
}

// judged is what P6.2 says of bytes and a number of words that is in its range, told as plainly as it can be: the numbers are put in a list, and walked.
func judged(b []byte, words int) ([]heap.Object, api.Errno) {
	if len(b) < 28 || string(b[:4]) != "TPPT" || (len(b)-4)%8 != 0 {
		return nil, api.ErrImage
	}
	var numbers []uint64
	for rest := b[4:]; len(rest) > 0; rest = rest[8:] {
		numbers = append(numbers, binary.LittleEndian.Uint64(rest))
	}
	root, hashes, count := api.Word(numbers[0]), int(numbers[1]), numbers[2]
	var l []heap.Object
	at := 3
	for ; count > 0; count-- {
		if at+3 > len(numbers) || numbers[at+2] > 512 || at+3+int(numbers[at+2]) > len(numbers) {
			return nil, api.ErrImage
		}
		o := heap.Object{Class: api.Word(numbers[at]), Hash: int(numbers[at+1])}
		for _, n := range numbers[at+3 : at+3+int(numbers[at+2])] {
			o.Fields = append(o.Fields, api.Word(n))
		}
		l = append(l, o)
		at += 3 + len(o.Fields)
	}
	if at != len(numbers) {
		return nil, api.ErrImage
	}
	return l, judgedLoad(l, words, root, hashes)
}

// judgedLoad is what P2.5 says of such objects, told by the numbers of P6.2.
func judgedLoad(l []heap.Object, words int, root api.Word, hashes int) api.Errno {
	used := 1
	refs := []api.Word{0}
	for _, o := range l {
		refs = append(refs, ref(used))
		used += 3 + len(o.Fields)
	}
	if used > words {
		return api.ErrMemory
	}
	if hashes < 0 || hashes > lastHash || !slices.Contains(refs, root) {
		return api.ErrImage
	}
	taken := map[int]int{}
	for _, o := range l {
		taken[o.Hash]++
		if o.Hash < 0 || o.Hash > hashes || o.Hash != 0 && taken[o.Hash] > 1 {
			return api.ErrImage
		}
		for _, w := range append(slices.Clone(o.Fields), o.Class) {
			if w%2 == 0 && !slices.Contains(refs, w) {
				return api.ErrImage
			}
		}
	}
	return api.OK
}

// compare decodes bytes, and holds the answer against the model's; it tells whether they are an image.
func compare(t *testing.T, b []byte, words int) api.Errno {
	t.Helper()
	given := bytes.Clone(b)
	l, want := judged(b, words)
	h, e := image.Decode(b, words)
	if e != want || (h != nil) != (want == api.OK) {
		t.Fatalf("Decode(%v, %d) = %v, %d, want %d", b, words, h, e, want)
	}
	if !bytes.Equal(b, given) {
		t.Fatalf("Decode has changed its bytes")
	}
	if e != api.OK {
		return e
	}
	if c := image.Encode(h); !bytes.Equal(c, b) || len(h.Dump()) != len(l) || h.Words() != words {
		t.Fatalf("Decode accepts %v, Encode returns %v", b, c)
	}
	return e
}

func TestEachOtherByte(t *testing.T) {
	outcomes := map[api.Errno]int{}
	other := []heap.Object{object(0), hashed(ref(1), 1), object(ref(4), 0, 1)}
	for _, good := range [][]byte{told(sample()), told(other, ref(1), 1)} {
		for k := range good {
			for other := range 256 {
				b := bytes.Clone(good)
				b[k] = byte(other)
				outcomes[compare(t, b, 64)]++
			}
		}
	}
	if outcomes[api.OK] == 0 || outcomes[api.ErrImage] == 0 {
		t.Errorf("outcomes %v: the test tells nothing", outcomes)
	}
}

// spoil changes bytes at random: a number, a byte, the length, or the place of a piece.
func (d *dice) spoil(b []byte) []byte {
	b = bytes.Clone(b)
	at := d.below(len(b) + 1)
	number := 4 + 8*d.below(max(1, (len(b)-4)/8))
	switch kind := d.below(8); {
	case kind == 0:
		return b[:at]
	case kind == 1:
		return slices.Insert(b, at, make([]byte, 1+d.below(24))...)
	case kind == 2:
		return slices.Delete(b, at, min(len(b), at+1+d.below(16)))
	case kind == 3 && at < len(b):
		b[at] ^= 1 << d.below(8)
	case kind == 4 && number+8 <= len(b):
		return slices.Delete(b, number, number+8)
	case number+8 <= len(b):
		binary.LittleEndian.PutUint64(b[number:], d.number())
	}
	return b
}

// number is most often a small one.
func (d *dice) number() uint64 {
	switch d.below(8) {
	case 0:
		return -uint64(d.below(100))
	case 1:
		return 1<<d.below(64) + uint64(d.below(3)) - 1
	}
	return uint64(d.below(70))
}

func TestSpoiledImages(t *testing.T) {
	outcomes := map[api.Errno]int{}
	for seed := range 60000 {
		d := dice(seed)
		b := image.Encode(d.heap(t, 64+d.below(64)))
		for range 1 + d.below(2) {
			b = d.spoil(b)
		}
		outcomes[compare(t, b, 64)]++
	}
	for _, e := range []api.Errno{api.OK, api.ErrMemory, api.ErrImage} {
		if outcomes[e] < 100 {
			t.Errorf("outcomes %v: the test tells too little", outcomes)
		}
	}
}

// TestSmallImages takes all lists of up to six numbers from a small set.
func TestSmallImages(t *testing.T) {
	set := []uint64{0, 1, 2, 3, 8, ^uint64(0)}
	var walk func(numbers []uint64)
	walk = func(numbers []uint64) {
		compare(t, raw(numbers...), 64)
		if len(numbers) == 6 {
			return
		}
		for _, n := range set {
			walk(append(slices.Clone(numbers), n))
		}
	}
	walk(nil)
}

// P1

func TestArbitraryBytes(t *testing.T) {
	for seed := range 5000 {
		d := dice(seed)
		b := make([]byte, d.below(200))
		for k := range b {
			b[k] = byte(d.below(256)) & byte(d.below(256)) & byte(d.below(256))
		}
		compare(t, b, 64)
		compare(t, append([]byte("TPPT"), b...), 64)
	}
}
