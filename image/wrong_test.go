package image_test

import (
	"bytes"
	"math"
	"slices"
	"testing"

	"tappet/api"
	"tappet/heap"
	"tappet/image"
)

// P6.2: what is rejected

func TestDecodeOtherMark(t *testing.T) {
	l, root, hashes := sample()
	for _, good := range [][]byte{told(l, root, hashes), raw(0, 0, 0)} {
		for k := range 4 {
			for other := range 256 {
				b := bytes.Clone(good)
				b[k] = byte(other)
				if b[k] == good[k] {
					accepted(t, b, 64)
					continue
				}
				rejected(t, "another mark", b, 64, api.ErrImage)
			}
		}
		rejected(t, "no mark", good[4:], 64, api.ErrImage)
		rejected(t, "a byte ahead of it", slices.Insert(bytes.Clone(good), 0, 0), 64, api.ErrImage)
		rejected(t, "two marks", slices.Concat([]byte("TPPT"), good), 64, api.ErrImage)
	}
}

func TestDecodeCutOff(t *testing.T) {
	l, root, hashes := sample()
	for _, good := range [][]byte{told(l, root, hashes), raw(0, 0, 0), told([]heap.Object{object(0)}, 0, 0)} {
		for n := range good {
			rejected(t, "cut off", good[:n], 64, api.ErrImage)
			rejected(t, "cut off, in a list of its own", bytes.Clone(good[:n]), 64, api.ErrImage)
		}
	}
	rejected(t, "nil", nil, 64, api.ErrImage)
	rejected(t, "no bytes", []byte{}, 64, api.ErrImage)
	rejected(t, "the example", []byte("TPP"), 64, api.ErrImage)
}

func TestDecodeGoesOn(t *testing.T) {
	l, root, hashes := sample()
	for _, good := range [][]byte{told(l, root, hashes), raw(0, 0, 0)} {
		for n := 1; n <= 8; n++ {
			for _, more := range []byte{0, 1, 'T', 0xff} {
				rejected(t, "goes on", append(bytes.Clone(good), bytes.Repeat([]byte{more}, n)...), 64, api.ErrImage)
			}
		}
		rejected(t, "an object more", slices.Concat(good, make([]byte, 24)), 64, api.ErrImage)
		rejected(t, "twice", slices.Concat(good, good), 64, api.ErrImage)
	}
}

// otherCounts are numbers in the place of n: below 0, greater than what follows, so great that a product or sum with them would overflow, and some that are n again if their upper bits are lost.
func otherCounts(n uint64) []uint64 {
	l := []uint64{
		0, 1, 2, 3, 4, 5, 6, 12, 100, 511, 512, 513, 514, 65535, 65536,
		n - 1, n + 1, -n, ^n,
		n + 1<<8, n + 1<<16, n + 1<<31, n + 1<<32, n + 1<<40, n + 1<<56,
		n + 1<<59, n + 1<<60, n + 1<<61, n + 1<<62, n + 1<<63, n + 3<<61, n + 7<<61,
		1<<31 - 1, 1 << 31, 1<<32 - 1, 1 << 32, 1 << 59, 1 << 60, 1 << 61, 1 << 62, 1<<63 - 1, 1 << 63,
		math.MaxUint64 / 24, math.MaxUint64/24 + 1, math.MaxInt64 / 24, math.MaxInt64/24 + 1, math.MaxInt64 / 8, math.MaxInt64 - 3,
	}
	for k := range uint64(30) {
		l = append(l, math.MaxUint64-k)
	}
	return slices.DeleteFunc(l, func(other uint64) bool { return other == n })
}

func TestDecodeOtherNumberOfObjects(t *testing.T) {
	l, root, hashes := sample()
	good := told(l, root, hashes)
	for _, n := range otherCounts(3) {
		rejected(t, "another number of objects", changed(good, 2, n), 64, api.ErrImage)
		rejected(t, "and a great heap", changed(good, 2, n), 65536, api.ErrImage)
	}
	for _, n := range otherCounts(0) {
		rejected(t, "objects that are not there", raw(0, 0, n), 65536, api.ErrImage)
	}
}

func TestDecodeOtherNumberOfFields(t *testing.T) {
	l, _, _ := sample()
	good := told(l, 0, 5)
	for k, at := range []int{5, 10, 14} {
		for _, n := range otherCounts(uint64(len(l[k].Fields))) {
			rejected(t, "another number of fields", changed(good, at, n), 64, api.ErrImage)
			rejected(t, "and a great heap", changed(good, at, n), 65536, api.ErrImage)
		}
	}
	for _, n := range otherCounts(0) {
		rejected(t, "fields that are not there", raw(0, 0, 1, 0, 0, n), 65536, api.ErrImage)
	}
}

// nowhere are words that are no integer, not 0, and lead to no object of the sample.
func nowhere() []api.Word {
	return []api.Word{
		ref(2), ref(3), ref(4), ref(5), ref(7), ref(8), ref(9), ref(11), ref(14), ref(15), ref(16), ref(63), ref(64), ref(65536),
		1<<32 - 2, 1 << 32, 1<<32 + ref(6), 1 << 62, 1<<62 + ref(6), 1 << 63, 1<<63 + ref(6), math.MaxUint64 - 1,
	}
}

func TestDecodeOtherRoot(t *testing.T) {
	l, _, hashes := sample()
	integers := []api.Word{num(0), num(1), num(6), num(-1), num(greatest), num(least)}
	for _, root := range slices.Concat(nowhere(), integers) {
		rejected(t, "another root", told(l, root, hashes), 64, api.ErrImage)
	}
	for _, root := range slices.Concat(nowhere(), integers, []api.Word{ref(1)}) {
		rejected(t, "a root without objects", told(nil, root, 0), 64, api.ErrImage)
	}
}

func TestDecodeWordsThatLeadNowhere(t *testing.T) {
	for _, w := range nowhere() {
		for k := range 3 {
			l, root, hashes := sample()
			l[k].Class = w
			rejected(t, "a class", told(l, root, hashes), 64, api.ErrImage)
			for n := range l[k].Fields {
				l, root, hashes := sample()
				l[k].Fields[n] = w
				rejected(t, "a field", told(l, root, hashes), 64, api.ErrImage)
			}
		}
	}
}

func TestDecodeOtherHashes(t *testing.T) {
	for _, c := range []struct{ a, b, hashes int }{
		{-1, 0, 5}, {0, -1, 5}, {math.MinInt, 0, 5}, {0, math.MinInt, lastHash},
		{6, 0, 5}, {0, 6, 5}, {1, 0, 0}, {0, math.MaxInt, 5}, {lastHash + 1, 0, lastHash}, {1<<32 + 1, 0, 5},
		{1, 1, 5}, {5, 5, 5}, {lastHash, lastHash, lastHash},
		{0, 0, -1}, {0, 0, math.MinInt}, {-1, 0, -1}, {0, 0, lastHash + 1}, {0, 0, math.MaxInt}, {lastHash + 1, 0, lastHash + 1},
	} {
		rejected(t, "other hashes", told([]heap.Object{hashed(0, c.a), hashed(0, c.b)}, 0, c.hashes), 64, api.ErrImage)
	}
	for _, hashes := range []int{-1, math.MinInt, lastHash + 1, math.MaxInt} {
		rejected(t, "hashes without objects", told(nil, 0, hashes), 64, api.ErrImage)
	}
}

// P1: of several errors the first one

func TestDecodeRoomAheadOfLoad(t *testing.T) {
	thirty := func(o heap.Object) []heap.Object { return slices.Repeat([]heap.Object{o}, 30) }
	// Each of these is ErrImage in a heap with room, ErrMemory in one without.
	for name, b := range map[string][]byte{
		"root between objects": told(thirty(object(0)), ref(2), 0),
		"root an integer":      told(thirty(object(0)), num(1), 0),
		"class":                told(thirty(object(ref(2))), 0, 0),
		"field":                told(thirty(object(0, ref(2))), 0, 0),
		"the same hash":        told(thirty(hashed(0, 1)), 0, 1),
		"hash below 0":         told(thirty(hashed(0, -1)), 0, 1),
		"hash above Hashes":    told(thirty(hashed(0, 2)), 0, 1),
		"Hashes below 0":       told(thirty(object(0)), 0, -1),
		"Hashes too great":     told(thirty(object(0)), 0, lastHash+1),
	} {
		rejected(t, name, b, 65536, api.ErrImage)
		rejected(t, name, b, 64, api.ErrMemory)
		rejected(t, name, b, 63, api.ErrArg)
	}
}

func TestDecodeFormAheadOfRoom(t *testing.T) {
	// 30 objects need 91 words.
	good := told(slices.Repeat([]heap.Object{object(0)}, 30), 0, 0)
	rejected(t, "no room", good, 64, api.ErrMemory)
	rejected(t, "no room", good, 90, api.ErrMemory)
	accepted(t, good, 91)
	for n := range good {
		rejected(t, "cut off", good[:n], 64, api.ErrImage)
	}
	for n := 1; n <= 8; n++ {
		rejected(t, "goes on", append(bytes.Clone(good), make([]byte, n)...), 64, api.ErrImage)
	}
	for k := range 4 {
		b := bytes.Clone(good)
		b[k] ^= 0x20
		rejected(t, "another mark", b, 64, api.ErrImage)
	}
	for _, n := range otherCounts(30) {
		rejected(t, "another number of objects", changed(good, 2, n), 64, api.ErrImage)
	}
	for k := range 30 {
		for _, n := range otherCounts(0) {
			// The objects behind it would be its fields: with another number of them the end comes too soon or too late.
			rejected(t, "another number of fields", changed(good, 5+3*k, n), 64, api.ErrImage)
		}
	}
	rejected(t, "513 fields behind them", told(append(slices.Repeat([]heap.Object{object(0)}, 30), full(0, 513, 1)), 0, 0), 64, api.ErrImage)
}

func TestDecodeManyAtOnce(t *testing.T) {
	bad := []byte("TPPX")
	for _, b := range [][]byte{
		bad,
		append(bad, raw(1, math.MaxUint64, math.MaxUint64)[4:]...),
		raw(1, math.MaxUint64, math.MaxUint64, 2, math.MaxUint64, math.MaxUint64),
		raw(1, math.MaxUint64, 1, 4, math.MaxUint64, 1, 4),
		raw(1, math.MaxUint64, 1, 4, math.MaxUint64, 1, 4)[:50],
	} {
		for _, words := range []int{64, 65536} {
			rejected(t, "many at once", b, words, api.ErrImage)
		}
		rejected(t, "many at once", b, 63, api.ErrArg)
		rejected(t, "many at once", b, 65537, api.ErrArg)
	}
}

func TestDecodeOfNoHeapsBytes(t *testing.T) {
	rejected(t, "nil", image.Encode(nil), 64, api.ErrImage)
	rejected(t, "empty", image.Encode(&heap.Heap{}), 64, api.ErrImage)
}
