package image_test

import (
	"bytes"
	"encoding/binary"
	"math"
	"slices"
	"testing"

	"tappet/api"
	"tappet/heap"
	"tappet/image"
)

const (
	lastHash = 1<<40 - 1
	greatest = 1<<62 - 1
	least    = -1 << 62
)

// ref and num are words, worked out from chapter 1's sentences.
func ref(at int) api.Word { return api.Word(2 * at) }
func num(n int) api.Word  { return api.Word(2*n + 1) }

// object is one without a hash.
func object(class api.Word, fields ...api.Word) heap.Object {
	return heap.Object{Class: class, Fields: fields}
}

// hashed is one with a hash.
func hashed(class api.Word, hash int, fields ...api.Word) heap.Object {
	return heap.Object{Class: class, Hash: hash, Fields: fields}
}

// full is an object whose fields are all the same.
func full(class api.Word, size int, fill api.Word) heap.Object {
	return object(class, slices.Repeat([]api.Word{fill}, size)...)
}

// raw is the mark with numbers behind it.
func raw(numbers ...uint64) []byte {
	b := []byte("TPPT")
	for _, n := range numbers {
		b = binary.LittleEndian.AppendUint64(b, n)
	}
	return b
}

// told are the bytes that P6.1 has for these contents, which need not be those of a heap.
func told(l []heap.Object, root api.Word, hashes int) []byte {
	numbers := []uint64{uint64(root), uint64(hashes), uint64(len(l))}
	for _, o := range l {
		numbers = append(numbers, uint64(o.Class), uint64(o.Hash), uint64(len(o.Fields)))
		for _, w := range o.Fields {
			numbers = append(numbers, uint64(w))
		}
	}
	return raw(numbers...)
}

// changed are bytes with another number in the place of the n-th one behind the mark.
func changed(b []byte, n int, to uint64) []byte {
	c := bytes.Clone(b)
	binary.LittleEndian.PutUint64(c[4+8*n:], to)
	return c
}

// held is a heap of these objects.
func held(t *testing.T, words int, l []heap.Object, root api.Word, hashes int) *heap.Heap {
	t.Helper()
	h, e := heap.New(words)
	if e != api.OK {
		t.Fatalf("New(%d) = error %d", words, e)
	}
	if e := h.Load(l, root, hashes); e != api.OK {
		t.Fatalf("Load(%v, %d, %d) = error %d", l, root, hashes, e)
	}
	return h
}

// state is all that can be read of a heap without changing it.
type state struct {
	words, used, hashes int
	root                api.Word
	refs                []api.Word
	objects             []heap.Object
}

func stateOf(h *heap.Heap) state {
	return state{h.Words(), h.Used(), h.Hashes(), h.Root(), h.Objects(), h.Dump()}
}

// same: do two heaps read the same? A list without elements may be nil or not.
func same(a, b state) bool {
	return a.words == b.words && a.used == b.used && a.hashes == b.hashes && a.root == b.root &&
		slices.Equal(a.refs, b.refs) && slices.EqualFunc(a.objects, b.objects, func(x, y heap.Object) bool {
		return x.Class == y.Class && x.Hash == y.Hash && slices.Equal(x.Fields, y.Fields)
	})
}

// accepted decodes bytes that have to be an image, and encodes the heap again, which has to give the same bytes.
func accepted(t *testing.T, b []byte, words int) *heap.Heap {
	t.Helper()
	given := bytes.Clone(b)
	h, e := image.Decode(b, words)
	if e != api.OK || h == nil {
		t.Fatalf("Decode(%d bytes, %d) = %v, %d", len(b), words, h, e)
	}
	if !bytes.Equal(b, given) {
		t.Fatalf("Decode has changed its bytes")
	}
	if h.Words() != words {
		t.Fatalf("Decode(%d bytes, %d) has %d words", len(b), words, h.Words())
	}
	if c := image.Encode(h); !bytes.Equal(c, given) {
		t.Fatalf("Decode accepts %v, Encode returns %v", given, c)
	}
	return h
}

// rejected decodes bytes for which there has to be this error.
func rejected(t *testing.T, what string, b []byte, words int, want api.Errno) {
	t.Helper()
	given := bytes.Clone(b)
	if h, e := image.Decode(b, words); h != nil || e != want {
		t.Errorf("%s: Decode(%d bytes, %d) = %v, %d, want nil, %d", what, len(b), words, h, e, want)
	}
	if !bytes.Equal(b, given) {
		t.Errorf("%s: Decode has changed its bytes", what)
	}
}

// sample are objects at the words 1, 6 and 10, 15 words in all, with their root and hashes. Behind the mark, the numbers 3, 8 and 12 are their classes.
func sample() ([]heap.Object, api.Word, int) {
	return []heap.Object{
		hashed(ref(10), 2, num(-1), ref(6)),
		object(0, ref(1)),
		hashed(ref(6), 3, 0, num(greatest)),
	}, ref(6), 5
}

// P6.1

func TestEncodeExample(t *testing.T) {
	h := held(t, 64, nil, 0, 0)
	want := append([]byte("TPPT"), make([]byte, 24)...)
	if b := image.Encode(h); !bytes.Equal(b, want) {
		t.Errorf("a heap without objects: %v, want %v", b, want)
	}
	accepted(t, want, 64)
}

func TestEncodeByteForByte(t *testing.T) {
	h, _ := heap.New(64)
	a, _ := h.Alloc(0, 3, num(-2))
	b, _ := h.Alloc(a, 0, 0)
	h.Store(a, 1, b)
	h.Store(a, 2, num(least))
	h.SetRoot(b)
	h.Hash(b)
	want := []byte{
		'T', 'P', 'P', 'T',
		14, 0, 0, 0, 0, 0, 0, 0, // Root
		1, 0, 0, 0, 0, 0, 0, 0, // Hashes
		2, 0, 0, 0, 0, 0, 0, 0, // objects
		0, 0, 0, 0, 0, 0, 0, 0, // Class
		0, 0, 0, 0, 0, 0, 0, 0, // Hash
		3, 0, 0, 0, 0, 0, 0, 0, // fields
		0xfd, 0xff, 0xff, 0xff, 0xff, 0xff, 0xff, 0xff,
		14, 0, 0, 0, 0, 0, 0, 0,
		1, 0, 0, 0, 0, 0, 0, 0x80,
		2, 0, 0, 0, 0, 0, 0, 0, // Class
		1, 0, 0, 0, 0, 0, 0, 0, // Hash
		0, 0, 0, 0, 0, 0, 0, 0, // fields
	}
	if got := image.Encode(h); !bytes.Equal(got, want) {
		t.Errorf("%v, want %v", got, want)
	}
}

func TestEncodeEachByteOfANumber(t *testing.T) {
	w := api.Word(0x0f_0e_0d_0c_0b_0a_09_07)
	h := held(t, 64, []heap.Object{hashed(w, 0x05_04_03_02_01, w)}, 0, 0x25_24_23_22_21)
	want := []byte("TPPT" +
		"\x00\x00\x00\x00\x00\x00\x00\x00" + "\x21\x22\x23\x24\x25\x00\x00\x00" + "\x01\x00\x00\x00\x00\x00\x00\x00" +
		"\x07\x09\x0a\x0b\x0c\x0d\x0e\x0f" + "\x01\x02\x03\x04\x05\x00\x00\x00" + "\x01\x00\x00\x00\x00\x00\x00\x00" +
		"\x07\x09\x0a\x0b\x0c\x0d\x0e\x0f")
	if got := image.Encode(h); !bytes.Equal(got, want) {
		t.Errorf("%v, want %v", got, want)
	}
	accepted(t, want, 64)
}

func TestEncodeLoaded(t *testing.T) {
	l, root, hashes := sample()
	cases := []struct {
		l      []heap.Object
		root   api.Word
		hashes int
	}{
		{nil, 0, lastHash},
		{l, root, hashes},
		{l, 0, hashes},
		{[]heap.Object{object(0)}, ref(1), 0},
		{[]heap.Object{full(0, 512, num(greatest)), full(ref(1), 511, ref(1))}, ref(516), 1},
		{[]heap.Object{hashed(num(0), lastHash), hashed(num(0), 1)}, ref(4), lastHash},
	}
	for _, c := range cases {
		for _, words := range []int{1200, 65536} {
			h := held(t, words, c.l, c.root, c.hashes)
			if b := image.Encode(h); !bytes.Equal(b, told(c.l, c.root, c.hashes)) {
				t.Errorf("%d objects: %v", len(c.l), b)
			}
		}
	}
}

func TestEncodeNoHeap(t *testing.T) {
	for name, h := range map[string]*heap.Heap{"nil": nil, "empty": {}} {
		if b := image.Encode(h); len(b) != 0 {
			t.Errorf("%s heap: %v, want no bytes", name, b)
		}
	}
}

func TestEncodeLeavesTheHeap(t *testing.T) {
	l, root, hashes := sample()
	h := held(t, 64, l, root, hashes)
	before := stateOf(h)
	b := image.Encode(h)
	for k := range b {
		b[k] = 0xff
	}
	if !same(stateOf(h), before) {
		t.Errorf("Encode changed the heap: %v, was %v", stateOf(h), before)
	}
	if c := image.Encode(h); !bytes.Equal(c, told(l, root, hashes)) {
		t.Errorf("a second Encode: %v", c)
	}
}

// P6.2: what is accepted

func TestDecode(t *testing.T) {
	l, root, hashes := sample()
	h := accepted(t, told(l, root, hashes), 100)
	want := state{100, 15, 5, ref(6), []api.Word{ref(1), ref(6), ref(10)}, l}
	if !same(stateOf(h), want) {
		t.Errorf("%v, want %v", stateOf(h), want)
	}
	if n, e := h.Hash(ref(6)); n != 6 || e != api.OK {
		t.Errorf("the next hash = %d, %d, want 6", n, e)
	}
	if n, e := h.Hash(ref(10)); n != 3 || e != api.OK {
		t.Errorf("a decoded hash = %d, %d, want 3", n, e)
	}
	if w, e := h.Alloc(ref(1), 82, 0); w != ref(15) || e != api.OK || h.Used() != 100 {
		t.Errorf("Alloc after Decode = %d, %d, %d used", w, e, h.Used())
	}
}

func TestDecodeWords(t *testing.T) {
	l, root, hashes := sample()
	good := told(l, root, hashes)
	for _, words := range []int{64, 65, 1000, 65535, 65536} {
		accepted(t, good, words)
		accepted(t, raw(0, 0, 0), words)
	}
	// ErrArg is named ahead of all others: it comes whatever the bytes are.
	for _, words := range []int{math.MinInt, -65536, -64, -1, 0, 1, 15, 63, 65537, 1 << 20, 1<<32 + 64, math.MaxInt} {
		for _, b := range [][]byte{good, raw(0, 0, 0), nil, {}, []byte("TPP"), good[:len(good)-1], changed(good, 0, 3), told([]heap.Object{full(0, 513, 0)}, 0, 0)} {
			rejected(t, "words", b, words, api.ErrArg)
		}
	}
}

func TestDecodeJustFull(t *testing.T) {
	list := func(sizes ...int) []heap.Object {
		var l []heap.Object
		for k, size := range sizes {
			l = append(l, full(0, size, num(k)))
		}
		return l
	}
	for _, l := range [][]heap.Object{
		list(60 + 1),
		list(0, 0, 0, 53),
		list(20, 19, 20),
		list(512),
		list(512, 512, 512),
		list(make([]int, 21845)...)[:21844],
	} {
		used := 1
		for _, o := range l {
			used += 3 + len(o.Fields)
		}
		b := told(l, ref(1), 0)
		if h := accepted(t, b, used); h.Used() != used {
			t.Errorf("%d words of %d are used", h.Used(), used)
		}
		rejected(t, "one word less", b, used-1, api.ErrMemory)
		accepted(t, b, used+1)
	}
}

func TestDecodeFullestHeap(t *testing.T) {
	// 21845 objects without fields take 65535 words behind word 0.
	l := slices.Repeat([]heap.Object{object(num(7))}, 21845)
	last := ref(1 + 3*21844)
	h := accepted(t, told(l, last, 0), 65536)
	if h.Used() != 65536 || h.Root() != last || !h.Has(last) {
		t.Errorf("%d words are used, root %d", h.Used(), h.Root())
	}
	rejected(t, "one word less", told(l, last, 0), 65535, api.ErrMemory)
	rejected(t, "one object more", told(append(l, object(0)), last, 0), 65536, api.ErrMemory)
}

func TestDecodeGreatestObject(t *testing.T) {
	for _, size := range []int{0, 1, 511, 512} {
		l := []heap.Object{full(0, size, ref(1)), full(ref(1), size, num(least))}
		h := accepted(t, told(l, ref(4+size), 0), 2000)
		if n, e := h.Size(h.Root()); n != size || e != api.OK {
			t.Errorf("an object of %d fields has %d, %d", size, n, e)
		}
	}
	for _, size := range []int{513, 514, 1024, 5000} {
		tall := full(0, size, 1)
		for _, l := range [][]heap.Object{{tall}, {object(0), tall}, {tall, object(0)}} {
			rejected(t, "a great object", told(l, 0, 0), 65536, api.ErrImage)
			// The number of fields is named ahead of the room.
			rejected(t, "a great object without room", told(l, 0, 0), 64, api.ErrImage)
		}
	}
}

func TestDecodeEachKindOfWord(t *testing.T) {
	words := []api.Word{0, num(0), num(1), num(-1), num(greatest), num(least), ref(1), ref(6), ref(10), math.MaxUint64}
	for _, class := range words {
		for _, field := range words {
			l, root, hashes := sample()
			l[1].Class, l[2].Fields[0] = class, field
			h := accepted(t, told(l, root, hashes), 64)
			if c, _ := h.Class(ref(6)); c != class {
				t.Errorf("class %d, want %d", c, class)
			}
			if w, _ := h.Fetch(ref(10), 0); w != field {
				t.Errorf("field %d, want %d", w, field)
			}
		}
	}
}

func TestDecodeRoots(t *testing.T) {
	l, _, hashes := sample()
	for _, root := range []api.Word{0, ref(1), ref(6), ref(10)} {
		if h := accepted(t, told(l, root, hashes), 64); h.Root() != root {
			t.Errorf("Root %d, want %d", h.Root(), root)
		}
	}
}

func TestDecodeHashes(t *testing.T) {
	for _, c := range []struct{ a, b, hashes int }{
		{0, 0, 0}, {0, 0, 1}, {0, 0, lastHash}, {1, 0, 1}, {1, 2, 2}, {2, 1, 2}, {0, 7, 9}, {lastHash, lastHash - 1, lastHash},
	} {
		h := accepted(t, told([]heap.Object{hashed(0, c.a), hashed(0, c.b)}, 0, c.hashes), 64)
		if l := h.Dump(); h.Hashes() != c.hashes || l[0].Hash != c.a || l[1].Hash != c.b {
			t.Errorf("%v: %d hashes, %v", c, h.Hashes(), l)
		}
	}
}

func TestDecodeKeepsNothing(t *testing.T) {
	l, root, hashes := sample()
	b := told(l, root, hashes)
	h, g := accepted(t, b, 64), accepted(t, b, 64)
	for k := range b {
		b[k] = 0xff
	}
	want := state{64, 15, hashes, root, []api.Word{ref(1), ref(6), ref(10)}, l}
	if !same(stateOf(h), want) {
		t.Errorf("changed with its bytes: %v, want %v", stateOf(h), want)
	}
	g.Store(ref(1), 0, 0)
	g.Alloc(0, 0, 0)
	g.Hash(ref(6))
	if !same(stateOf(h), want) {
		t.Errorf("changed with another heap of the same bytes: %v, want %v", stateOf(h), want)
	}
}
