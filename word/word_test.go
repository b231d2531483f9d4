package word_test

import (
	"math"
	"math/big"
	"testing"

	"tappet/api"
	"tappet/word"
)

const (
	least    = -1 << 62
	greatest = 1<<62 - 1
	lastRef  = 1<<31 - 1
)

// of is a number's word, worked out from the document's sentence and not by FromInt.
func of(n int) api.Word { return api.Word(2*n + 1) }

// numbers are integers of the range: small ones, powers of two and their neighbours, and the edges, each with both signs.
func numbers() []int {
	list := []int{0, least, least + 1, greatest - 1, greatest, 3037000499, 3037000500, -3037000499, -3037000500, 1000003, -1000003}
	for _, bit := range []int{0, 1, 2, 3, 7, 15, 30, 31, 32, 47, 60, 61} {
		for _, n := range []int{1<<bit - 1, 1 << bit, 1<<bit + 1} {
			list = append(list, n, -n)
		}
	}
	return list
}

// wrongWords are words that are no integers: references, and even words that are no references either.
func wrongWords() []api.Word {
	return []api.Word{0, 2, 4, 6, 2 * lastRef, 2 * (lastRef + 1), 1 << 33, 1 << 62, 1 << 63, math.MaxUint64 - 1}
}

// wrongKinds are the kinds that lie outside 0 to last.
func wrongKinds(last int) []int {
	return []int{math.MinInt, math.MinInt + 1, -8, -2, -1, last + 1, last + 2, last + 8, 256, 1 << 32, 1<<32 + last, math.MaxInt}
}

// P1.1

func TestFromInt(t *testing.T) {
	cases := []struct {
		n int
		w api.Word
		e api.Errno
	}{
		{0, 1, api.OK},
		{1, 3, api.OK},
		{5, 11, api.OK},
		{-1, 1<<64 - 1, api.OK},
		{-2, 1<<64 - 3, api.OK},
		{1 << 40, 1<<41 + 1, api.OK},
		{least, 1<<63 + 1, api.OK},
		{least + 1, 1<<63 + 3, api.OK},
		{greatest - 1, 1<<63 - 3, api.OK},
		{greatest, 1<<63 - 1, api.OK},
		{least - 1, 0, api.ErrArg},
		{greatest + 1, 0, api.ErrArg},
		{math.MinInt, 0, api.ErrArg},
		{math.MinInt + 1, 0, api.ErrArg},
		{math.MaxInt, 0, api.ErrArg},
	}
	for _, c := range cases {
		if w, e := word.FromInt(c.n); w != c.w || e != c.e {
			t.Errorf("FromInt(%d) = %d, %d, want %d, %d", c.n, w, e, c.w, c.e)
		}
	}
}

func TestFromRef(t *testing.T) {
	cases := []struct {
		at int
		w  api.Word
		e  api.Errno
	}{
		{1, 2, api.OK},
		{2, 4, api.OK},
		{3, 6, api.OK},
		{65536, 131072, api.OK},
		{lastRef - 1, 1<<32 - 4, api.OK},
		{lastRef, 1<<32 - 2, api.OK},
		{0, 0, api.ErrArg},
		{-1, 0, api.ErrArg},
		{lastRef + 1, 0, api.ErrArg},
		{1<<32 + 1, 0, api.ErrArg},
		{math.MinInt, 0, api.ErrArg},
		{math.MinInt + 1, 0, api.ErrArg},
		{math.MaxInt, 0, api.ErrArg},
	}
	for _, c := range cases {
		if w, e := word.FromRef(c.at); w != c.w || e != c.e {
			t.Errorf("FromRef(%d) = %d, %d, want %d, %d", c.at, w, e, c.w, c.e)
		}
	}
}

func TestIsInt(t *testing.T) {
	for _, w := range []api.Word{1, 3, 11, 1<<32 - 1, 1<<32 + 1, 1<<63 - 1, 1<<63 + 1, math.MaxUint64} {
		if !word.IsInt(w) {
			t.Errorf("IsInt(%d) = false", w)
		}
	}
	for _, w := range wrongWords() {
		if word.IsInt(w) {
			t.Errorf("IsInt(%d) = true", w)
		}
	}
}

func TestInt(t *testing.T) {
	cases := []struct {
		w api.Word
		n int
	}{
		{1, 0},
		{3, 1},
		{11, 5},
		{math.MaxUint64, -1},
		{math.MaxUint64 - 2, -2},
		{1<<63 - 1, greatest},
		{1<<63 - 3, greatest - 1},
		{1<<63 + 1, least},
		{1<<63 + 3, least + 1},
	}
	for _, c := range cases {
		if n, e := word.Int(c.w); n != c.n || e != api.OK {
			t.Errorf("Int(%d) = %d, %d, want %d", c.w, n, e, c.n)
		}
	}
	for _, w := range wrongWords() {
		if n, e := word.Int(w); n != 0 || e != api.ErrArg {
			t.Errorf("Int(%d) = %d, %d, want 0, ErrArg", w, n, e)
		}
	}
}

func TestRef(t *testing.T) {
	for _, at := range []int{1, 2, 3, 65536, lastRef - 1, lastRef} {
		if got, e := word.Ref(api.Word(2 * at)); got != at || e != api.OK {
			t.Errorf("Ref(%d) = %d, %d, want %d", 2*at, got, e, at)
		}
	}
	wrong := []api.Word{
		0, 1, 3, 5, 7, 1<<32 - 1, 1 << 32, 1<<32 + 1, 1<<32 + 2, 1 << 33, 1<<33 + 6,
		1<<63 - 1, 1<<63 - 2, 1 << 63, 1<<63 + 2, math.MaxUint64 - 1, math.MaxUint64,
	}
	for _, w := range wrong {
		if at, e := word.Ref(w); at != 0 || e != api.ErrArg {
			t.Errorf("Ref(%d) = %d, %d, want 0, ErrArg", w, at, e)
		}
	}
}

// P1.2

func TestArithExamples(t *testing.T) {
	cases := []struct{ kind, a, b, n int }{
		{0, 2, 3, 5},
		{0, greatest - 1, 1, greatest},
		{0, least + 1, -1, least},
		{0, least, greatest, -1},
		{1, 2, 3, -1},
		{1, greatest - 1, -1, greatest},
		{1, least + 1, 1, least},
		{1, -1, least, greatest},
		{1, least, least, 0},
		{2, -4, 5, -20},
		{2, 0, least, 0},
		{2, 1 << 31, -1 << 31, least},
		{2, -1, -greatest, greatest},
		{2, 2, -1 << 61, least},
		{2, 2147483647, 2147483649, greatest},
		{3, 7, 2, 3},
		{3, -7, 2, -4},
		{3, 7, -2, -4},
		{3, -7, -2, 3},
		{3, -6, 2, -3},
		{3, 6, -2, -3},
		{3, 0, -5, 0},
		{3, 1, least, -1},
		{3, -1, greatest, -1},
		{3, least, 1, least},
		{3, greatest, -1, -greatest},
		{3, least, least, 1},
		{4, 7, 2, 1},
		{4, -7, 2, 1},
		{4, 7, -2, -1},
		{4, -7, -2, -1},
		{4, -6, 2, 0},
		{4, 6, -2, 0},
		{4, least, -1, 0},
		{4, 1, least, least + 1},
		{4, -1, greatest, greatest - 1},
		{5, 6, 3, 2},
		{5, -1, least, least},
		{5, -8, 13, 8},
		{6, 6, 3, 7},
		{6, least, greatest, -1},
		{6, -8, 5, -3},
		{7, 6, 3, 5},
		{7, least, greatest, -1},
		{7, least, -1, greatest},
		{7, -8, -8, 0},
	}
	for _, c := range cases {
		if w, ok := word.Arith(c.kind, of(c.a), of(c.b)); !ok || w != of(c.n) {
			t.Errorf("Arith(%d, %d, %d) = %d, %v, want the word of %d", c.kind, c.a, c.b, w, ok, c.n)
		}
	}
}

func TestArithWithoutResult(t *testing.T) {
	cases := []struct{ kind, a, b int }{
		{0, greatest, 1},
		{0, greatest, greatest},
		{0, least, -1},
		{0, least, least},
		{1, least, 1},
		{1, greatest, -1},
		{1, greatest, least},
		{1, 0, least},
		{1, least, greatest},
		{2, 1 << 31, 1 << 31},
		{2, -1, least},
		{2, least, -1},
		{2, 2, 1 << 61},
		{2, 2, -1<<61 - 1},
		{2, 1 << 32, 1 << 32},
		{2, 3, 1 << 61},
		{2, least, least},
		{2, greatest, greatest},
		{2, least, greatest},
		{3, least, -1},
		{3, 1, 0},
		{3, 0, 0},
		{3, least, 0},
		{4, 1, 0},
		{4, 0, 0},
		{4, -1, 0},
	}
	for _, c := range cases {
		if w, ok := word.Arith(c.kind, of(c.a), of(c.b)); ok || w != 0 {
			t.Errorf("Arith(%d, %d, %d) = %d, %v, want 0, false", c.kind, c.a, c.b, w, ok)
		}
	}
}

// exact reckons without bound; nil if there is no result. Euclid's division is what the library has: its remainder is never negative, so it is brought to the sign of the divisor.
func exact(kind, n, m int) *big.Int {
	a, b, r := big.NewInt(int64(n)), big.NewInt(int64(m)), new(big.Int)
	switch kind {
	case 0:
		return r.Add(a, b)
	case 1:
		return r.Sub(a, b)
	case 2:
		return r.Mul(a, b)
	case 5:
		return r.And(a, b)
	case 6:
		return r.Or(a, b)
	case 7:
		return r.Xor(a, b)
	}
	if m == 0 {
		return nil
	}
	q, _ := new(big.Int).DivMod(a, b, r)
	if m < 0 && r.Sign() != 0 {
		q.Sub(q, big.NewInt(1))
		r.Add(r, b)
	}
	if kind == 3 {
		return q
	}
	return r
}

func TestArithIsExact(t *testing.T) {
	low, high := big.NewInt(least), big.NewInt(greatest)
	for kind := 0; kind <= 7; kind++ {
		for _, n := range numbers() {
			for _, m := range numbers() {
				var want api.Word
				r := exact(kind, n, m)
				fits := r != nil && r.Cmp(low) >= 0 && r.Cmp(high) <= 0
				if fits {
					want = of(int(r.Int64()))
				}
				if w, ok := word.Arith(kind, of(n), of(m)); w != want || ok != fits {
					t.Fatalf("Arith(%d, %d, %d) = %d, %v, want %d, %v", kind, n, m, w, ok, want, fits)
				}
			}
		}
	}
}

func TestArithWrongInputs(t *testing.T) {
	for kind := 0; kind <= 7; kind++ {
		for _, wrong := range wrongWords() {
			for _, pair := range [][2]api.Word{{wrong, of(3)}, {of(3), wrong}, {wrong, wrong}, {wrong, of(0)}} {
				if w, ok := word.Arith(kind, pair[0], pair[1]); ok || w != 0 {
					t.Errorf("Arith(%d, words %d, %d) = %d, %v, want 0, false", kind, pair[0], pair[1], w, ok)
				}
			}
		}
	}
	for _, kind := range wrongKinds(7) {
		for _, pair := range [][2]api.Word{{of(6), of(3)}, {of(0), of(0)}, {6, of(3)}, {of(3), 6}} {
			if w, ok := word.Arith(kind, pair[0], pair[1]); ok || w != 0 {
				t.Errorf("Arith(%d, words %d, %d) = %d, %v, want 0, false", kind, pair[0], pair[1], w, ok)
			}
		}
	}
}

// P1.3

func TestLess(t *testing.T) {
	for _, n := range numbers() {
		for _, m := range numbers() {
			for kind, want := range []bool{n < m, n <= m, n == m} {
				if got, ok := word.Less(kind, of(n), of(m)); got != want || !ok {
					t.Fatalf("Less(%d, %d, %d) = %v, %v, want %v, true", kind, n, m, got, ok, want)
				}
			}
		}
	}
}

func TestLessExamples(t *testing.T) {
	cases := []struct {
		kind, a, b int
		want       bool
	}{
		{0, -1, 0, true},
		{0, 0, -1, false},
		{0, 4, 4, false},
		{0, least, greatest, true},
		{0, greatest, least, false},
		{1, 4, 4, true},
		{1, 5, 4, false},
		{1, least, least, true},
		{2, 4, 4, true},
		{2, 4, -4, false},
		{2, least, greatest, false},
	}
	for _, c := range cases {
		if got, ok := word.Less(c.kind, of(c.a), of(c.b)); got != c.want || !ok {
			t.Errorf("Less(%d, %d, %d) = %v, %v, want %v, true", c.kind, c.a, c.b, got, ok, c.want)
		}
	}
}

func TestLessWrongInputs(t *testing.T) {
	for kind := 0; kind <= 2; kind++ {
		for _, wrong := range wrongWords() {
			for _, pair := range [][2]api.Word{{wrong, of(3)}, {of(3), wrong}, {wrong, wrong}} {
				if got, ok := word.Less(kind, pair[0], pair[1]); got || ok {
					t.Errorf("Less(%d, words %d, %d) = %v, %v, want false, false", kind, pair[0], pair[1], got, ok)
				}
			}
		}
	}
	for _, kind := range wrongKinds(2) {
		for _, pair := range [][2]api.Word{{of(1), of(2)}, {of(2), of(2)}, {6, of(2)}, {of(2), 6}} {
			if got, ok := word.Less(kind, pair[0], pair[1]); got || ok {
				t.Errorf("Less(%d, words %d, %d) = %v, %v, want false, false", kind, pair[0], pair[1], got, ok)
			}
		}
	}
}

// P1.4

func TestOneWordForEachInteger(t *testing.T) {
	numberOf := map[api.Word]int{}
	for _, n := range numbers() {
		w, e := word.FromInt(n)
		if e != api.OK {
			t.Fatalf("FromInt(%d) = error %d", n, e)
		}
		if other, taken := numberOf[w]; taken && other != n {
			t.Errorf("%d and %d have the same word %d", n, other, w)
		}
		numberOf[w] = n
		if back, e := word.Int(w); back != n || e != api.OK {
			t.Errorf("Int(FromInt(%d)) = %d, %d", n, back, e)
		}
	}
}

func TestEachOddWordIsOfOneInteger(t *testing.T) {
	for _, w := range []api.Word{1, 3, 5, 1<<32 - 1, 1<<63 - 3, 1<<63 - 1, 1<<63 + 1, 1<<63 + 3, math.MaxUint64 - 2, math.MaxUint64} {
		n, e := word.Int(w)
		if e != api.OK {
			t.Fatalf("Int(%d) = error %d", w, e)
		}
		if back, e := word.FromInt(n); back != w || e != api.OK {
			t.Errorf("FromInt(Int(%d)) = %d, %d", w, back, e)
		}
	}
}

func TestNoWordIsBoth(t *testing.T) {
	check := func(w api.Word) {
		_, asInt := word.Int(w)
		_, asRef := word.Ref(w)
		if asInt == api.OK && asRef == api.OK {
			t.Errorf("%d is both an integer and a reference", w)
		}
		if word.IsInt(w) != (asInt == api.OK) {
			t.Errorf("IsInt(%d) and Int disagree", w)
		}
	}
	for w := api.Word(0); w < 4096; w++ {
		check(w)
		check(1<<32 - 2048 + w)
		check(1<<63 - 2048 + w)
		check(math.MaxUint64 - w)
	}
	for _, at := range []int{1, 2, 3, lastRef - 1, lastRef} {
		w, e := word.FromRef(at)
		if e != api.OK || word.IsInt(w) {
			t.Errorf("FromRef(%d) = %d, %d: no reference", at, w, e)
		}
		if back, e := word.Ref(w); back != at || e != api.OK {
			t.Errorf("Ref(FromRef(%d)) = %d, %d", at, back, e)
		}
	}
}

func TestQuotientAndRemainder(t *testing.T) {
	for _, n := range numbers() {
		for _, m := range numbers() {
			q, fits := word.Arith(3, of(n), of(m))
			r, some := word.Arith(4, of(n), of(m))
			if some != (m != 0) || fits && !some {
				t.Fatalf("%d by %d: quotient %v, remainder %v", n, m, fits, some)
			}
			if !fits {
				continue
			}
			quotient, _ := word.Int(q)
			remainder, _ := word.Int(r)
			if m*quotient+remainder != n {
				t.Fatalf("%d times %d plus %d is not %d", m, quotient, remainder, n)
			}
			if remainder != 0 && (remainder < 0) != (m < 0) {
				t.Fatalf("the remainder %d of %d by %d has not the sign of the divisor", remainder, n, m)
			}
		}
	}
}

func TestCommutative(t *testing.T) {
	for _, kind := range []int{0, 2, 5, 6, 7} {
		for _, n := range numbers() {
			for _, m := range numbers() {
				w, ok := word.Arith(kind, of(n), of(m))
				v, also := word.Arith(kind, of(m), of(n))
				if w != v || ok != also {
					t.Fatalf("kind %d of %d and %d: %d, %v one way, %d, %v the other", kind, n, m, w, ok, v, also)
				}
			}
		}
	}
}

// P1

func TestNothingPanics(t *testing.T) {
	words := wrongWords()
	for _, n := range numbers() {
		words = append(words, of(n))
		word.FromInt(n)
		word.FromRef(n)
		word.FromInt(n - 1<<62)
		word.FromRef(n - 1<<62)
	}
	kinds := append(wrongKinds(7), 0, 1, 2, 3, 4, 5, 6, 7)
	for _, a := range words {
		word.Int(a)
		word.Ref(a)
		for _, b := range words {
			for _, kind := range kinds {
				if w, ok := word.Arith(kind, a, b); !ok && w != 0 {
					t.Fatalf("Arith(%d, words %d, %d) = %d beside false", kind, a, b, w)
				}
				if less, ok := word.Less(kind, a, b); !ok && less {
					t.Fatalf("Less(%d, words %d, %d) = true beside false", kind, a, b)
				}
			}
		}
	}
}
