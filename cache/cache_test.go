package cache_test

import (
	"math"
	"math/big"
	"slices"
	"testing"

	"tappet/api"
	"tappet/cache"
	"tappet/heap"
)

// made is a new cache.
func made(t *testing.T, lines int) *cache.Cache {
	t.Helper()
	c, e := cache.New(lines)
	if e != api.OK || c == nil {
		t.Fatalf("New(%d) = %v, error %d", lines, c, e)
	}
	return c
}

// holds asks for a method that has to be remembered.
func holds(t *testing.T, c *cache.Cache, class, selector, want api.Word) {
	t.Helper()
	if m, ok := c.Get(class, selector); m != want || !ok {
		t.Errorf("Get(%d, %d) = %d, %v, want %d, true", class, selector, m, ok, want)
	}
}

// lacks asks for a method that must not be remembered.
func lacks(t *testing.T, c *cache.Cache, class, selector api.Word) {
	t.Helper()
	if m, ok := c.Get(class, selector); m != 0 || ok {
		t.Errorf("Get(%d, %d) = %d, %v, want 0, false", class, selector, m, ok)
	}
}

// counts asks for Counts.
func counts(t *testing.T, c *cache.Cache, remembered, lookedUp int) {
	t.Helper()
	if x, y := c.Counts(); x != remembered || y != lookedUp {
		t.Errorf("Counts() = %d, %d, want %d, %d", x, y, remembered, lookedUp)
	}
}

// dropped asks for Drops.
func dropped(t *testing.T, c *cache.Cache, want ...api.Word) {
	t.Helper()
	if l := c.Drops(); !slices.Equal(l, want) {
		t.Errorf("Drops() = %v, want %v", l, want)
	}
}

// index is that of the line of a class and a selector, by the chapter's formula in numbers without bounds.
func index(lines int, class, selector api.Word) int {
	half := func(w api.Word) *big.Int { return new(big.Int).SetUint64(uint64(w) / 2) }
	n := half(class)
	n.Mul(n, big.NewInt(31)).Add(n, half(selector))
	n.Mod(n, new(big.Int).Lsh(big.NewInt(1), 64))
	return int(n.Mod(n, big.NewInt(int64(lines))).Int64())
}

// at is a selector of which the line, with the class 0, has this index.
func at(k int) api.Word { return api.Word(2 * k) }

// odd are words at the edges, most of them neither classes nor selectors.
var odd = []api.Word{
	0, 1, 2, 3, 4, 5, 62, 63, 64, 1 << 31, 1<<32 - 2, 1<<32 + 2, 1 << 62, 1<<63 - 1, 1 << 63, 1<<63 + 1,
	math.MaxUint64/31 - 1, math.MaxUint64 / 31 * 2, math.MaxUint64/31*2 + 2, math.MaxUint64 - 63, math.MaxUint64 - 2, math.MaxUint64 - 1, math.MaxUint64,
}

// The chapter's example.

func TestExample(t *testing.T) {
	c := made(t, 1)
	c.Put(2, 4, 6)
	holds(t, c, 2, 4, 6)
	c.Put(8, 4, 6)
	lacks(t, c, 2, 4)
	holds(t, c, 8, 4, 6)
	c.Drop(4)
	lacks(t, c, 8, 4)
}

// P8.1

func TestNew(t *testing.T) {
	for _, lines := range []int{math.MinInt, -256, -1, 0, 257, 258, 512, 65536, math.MaxInt} {
		if c, e := cache.New(lines); c != nil || e != api.ErrArg {
			t.Errorf("New(%d) = %v, error %d, want nil, ErrArg", lines, c, e)
		}
	}
	for lines := 1; lines <= 256; lines++ {
		c := made(t, lines)
		counts(t, c, 0, 0)
		dropped(t, c)
		for k := range lines + 2 {
			lacks(t, c, 0, at(k))
		}
	}
}

func TestNewHasThisManyLines(t *testing.T) {
	for lines := 1; lines <= 256; lines++ {
		c := made(t, lines)
		for k := range lines {
			c.Put(0, at(k), api.Word(k))
		}
		for k := range lines {
			holds(t, c, 0, at(k), api.Word(k))
		}
		c.Put(0, at(lines), 9)
		lacks(t, c, 0, at(0))
		for k := 1; k < lines; k++ {
			holds(t, c, 0, at(k), api.Word(k))
		}
	}
}

func TestEmptyLines(t *testing.T) {
	for _, lines := range []int{1, 2, 255, 256} {
		c := made(t, lines)
		for _, class := range odd {
			for _, selector := range odd {
				lacks(t, c, class, selector)
			}
		}
	}
}

func TestCachesAreApart(t *testing.T) {
	a, b := made(t, 1), made(t, 1)
	a.Put(2, 4, 6)
	lacks(t, b, 2, 4)
	b.Put(2, 4, 8)
	holds(t, a, 2, 4, 6)
	b.Drop(4)
	holds(t, a, 2, 4, 6)
	dropped(t, a)
	a.Find(nil, 2, 4)
	a.Find(nil, 2, 8)
	counts(t, b, 0, 0)
	b.Clear()
	holds(t, a, 2, 4, 6)
	counts(t, a, 1, 1)
	dropped(t, b, 4)
}

// noCaches are a nil cache and those that New did not make.
func noCaches() map[string]*cache.Cache {
	return map[string]*cache.Cache{"nil": nil, "empty": {}, "new": new(cache.Cache)}
}

func TestNoCache(t *testing.T) {
	for name, c := range noCaches() {
		for _, x := range odd {
			for _, y := range odd {
				c.Put(x, y, 6)
				if m, ok := c.Get(x, y); m != 0 || ok {
					t.Errorf("%s cache: Get(%d, %d) = %d, %v", name, x, y, m, ok)
				}
				if m, e := c.Find(nil, x, y); m != 0 || e != api.ErrLookup {
					t.Errorf("%s cache: Find(%d, %d) = %d, error %d", name, x, y, m, e)
				}
			}
			c.Drop(x)
			if l := c.Drops(); len(l) != 0 {
				t.Errorf("%s cache: Drops() = %v", name, l)
			}
			c.Clear()
			if x, y := c.Counts(); x != 0 || y != 0 {
				t.Errorf("%s cache: Counts() = %d, %d", name, x, y)
			}
		}
	}
}

// P8.2: the lines

func TestPut(t *testing.T) {
	c := made(t, 256)
	c.Put(2, 4, 6)
	holds(t, c, 2, 4, 6)
	c.Put(2, 4, 6)
	holds(t, c, 2, 4, 6)
	c.Put(2, 4, 10)
	holds(t, c, 2, 4, 10)
	c.Put(2, 4, 0)
	holds(t, c, 2, 4, 0)
	counts(t, c, 0, 0)
	dropped(t, c)
}

func TestPutOfAnyWords(t *testing.T) {
	for _, lines := range []int{1, 7, 255, 256} {
		c := made(t, lines)
		for _, class := range odd {
			for _, selector := range odd {
				for _, method := range []api.Word{0, 1, 6, math.MaxUint64} {
					c.Put(class, selector, method)
					holds(t, c, class, selector, method)
				}
			}
		}
	}
}

// Of two keys one line remembers the last one; lines that they don't share remember both.
func TestIndex(t *testing.T) {
	for _, lines := range []int{1, 2, 3, 31, 32, 100, 255, 256} {
		for _, class := range odd {
			for _, selector := range odd {
				c := made(t, lines)
				c.Put(class, selector, 77)
				k := index(lines, class, selector)
				for i := range lines {
					if i != k {
						c.Put(0, at(i), 9)
					}
				}
				holds(t, c, class, selector, 77)
				// A key of the same line, which is not this one.
				c.Put(0, at(k+lines)+1, 9)
				if class != 0 || selector != at(k+lines)+1 {
					lacks(t, c, class, selector)
				}
			}
		}
	}
}

// The formula by numbers that are worked out by hand.
func TestIndexByHand(t *testing.T) {
	rows := []struct {
		lines           int
		class, selector api.Word
		want            int
	}{
		{256, 0, 0, 0},
		{256, 2, 4, 33},
		{256, 3, 5, 33},
		{256, 8, 4, 126},
		{100, 20, 30, 25},
		{256, 18, 0, 23},
		{7, 2, 0, 3},
		// 31 (2^63 - 1) + 2^63 - 1 is 2^64 - 32 modulo 2^64, which is 84 modulo 100.
		{100, math.MaxUint64, math.MaxUint64, 84},
		{256, math.MaxUint64, math.MaxUint64, 224},
		{100, math.MaxUint64 - 1, math.MaxUint64 - 1, 84},
		// 31 (2^63 - 1) is 2^63 - 31, which is 77 modulo 100.
		{100, math.MaxUint64, 0, 77},
		// 2^63 - 1 is 7 modulo 100.
		{100, 0, math.MaxUint64, 7},
	}
	for _, r := range rows {
		if k := index(r.lines, r.class, r.selector); k != r.want {
			t.Errorf("%d, %d has the index %d of %d, want %d", r.class, r.selector, k, r.lines, r.want)
		}
		c := made(t, r.lines)
		c.Put(r.class, r.selector, 6)
		for k := range r.lines {
			if k != r.want {
				c.Put(0, at(k), 9)
			}
		}
		holds(t, c, r.class, r.selector, 6)
		c.Put(0, at(r.want+r.lines), 9)
		lacks(t, c, r.class, r.selector)
	}
}

// A key of which only the class, or only the selector, is in the line is another one.
func TestGetOfHalfAKey(t *testing.T) {
	for _, lines := range []int{1, 256} {
		c := made(t, lines)
		c.Put(2, 4, 6)
		for _, k := range [][2]api.Word{
			{3, 4}, {2, 5}, {3, 5}, // the same line for any number of lines
			{4, 2}, {6, 4}, {2, 6}, {4, 4}, {2, 2}, {0, 4}, {2, 0}, {2, 4 + 512}, {2 + 512, 4}, {0, 66}, {0, 0},
			{2 + 1<<63, 4}, {2, 4 + 1<<63}, {2 + 1<<32, 4}, {2, 4 + 1<<32},
		} {
			lacks(t, c, k[0], k[1])
			lacks(t, c, k[0], k[1])
		}
		holds(t, c, 2, 4, 6)
	}
}

// P8.2: Drop

func TestDrop(t *testing.T) {
	c := made(t, 256)
	for _, class := range []api.Word{0, 2, 10, 100, 9} {
		c.Put(class, 4, class+20)
		c.Put(class, 6, class+40)
	}
	c.Drop(4)
	for _, class := range []api.Word{0, 2, 10, 100, 9} {
		lacks(t, c, class, 4)
		holds(t, c, class, 6, class+40)
	}
	c.Drop(4)
	c.Drop(8)
	for _, class := range []api.Word{0, 2, 10, 100, 9} {
		lacks(t, c, class, 4)
		holds(t, c, class, 6, class+40)
	}
	c.Put(2, 4, 12)
	holds(t, c, 2, 4, 12)
	c.Drop(6)
	holds(t, c, 2, 4, 12)
	lacks(t, c, 2, 6)
	counts(t, c, 0, 0)
	dropped(t, c, 4, 4, 8, 6)
}

func TestDropOfAllLines(t *testing.T) {
	for _, lines := range []int{1, 2, 100, 256} {
		c := made(t, lines)
		// 31 has no divisor with these, so that the classes lie in all lines.
		for k := range lines {
			c.Put(api.Word(2*k), 4, 6)
		}
		for k := range lines {
			holds(t, c, api.Word(2*k), 4, 6)
		}
		c.Drop(4)
		for k := range lines {
			lacks(t, c, api.Word(2*k), 4)
		}
	}
}

func TestDropOfNoSelector(t *testing.T) {
	c := made(t, 256)
	c.Put(2, 4, 6)
	// Neither a class nor a method is a selector, nor is a word that only has its line in common.
	for _, w := range []api.Word{2, 6, 5, 0, 1, 4 + 512, 4 + 1<<63, math.MaxUint64} {
		c.Drop(w)
		holds(t, c, 2, 4, 6)
	}
	dropped(t, c, 2, 6, 5, 0, 1, 4+512, 4+1<<63, math.MaxUint64)
}

func TestDropOfOddWords(t *testing.T) {
	for _, class := range odd {
		for _, selector := range odd {
			c := made(t, 256)
			c.Put(class, selector, 6)
			c.Drop(selector + 1)
			holds(t, c, class, selector, 6)
			c.Drop(selector)
			lacks(t, c, class, selector)
			lacks(t, c, 0, 0)
			dropped(t, c, selector+1, selector)
		}
	}
}

// P8.2: Drops

func TestDrops(t *testing.T) {
	for _, n := range []int{0, 1, 2, 63, 64, 65, 66, 127, 128, 129, 300} {
		c := made(t, 1)
		var want []api.Word
		for k := range n {
			c.Drop(api.Word(1000 - k))
			want = append(want, api.Word(1000-k))
		}
		dropped(t, c, want[max(0, n-64):]...)
		dropped(t, c)
		dropped(t, c)
		c.Drop(4)
		dropped(t, c, 4)
		dropped(t, c)
	}
}

// A selector that is dropped twice is told twice, for it is told what was dropped, not what the lines had.
func TestDropsTellsEachDrop(t *testing.T) {
	c := made(t, 4)
	for _, w := range []api.Word{4, 4, 2, 4, 0, 0, math.MaxUint64} {
		c.Drop(w)
	}
	dropped(t, c, 4, 4, 2, 4, 0, 0, math.MaxUint64)
	for range 65 {
		c.Drop(6)
	}
	dropped(t, c, slices.Repeat([]api.Word{6}, 64)...)
}

// The 64 are counted from the last call of Drops on.
func TestDropsBeginsAnew(t *testing.T) {
	c := made(t, 4)
	for k := range 40 {
		c.Drop(api.Word(k))
	}
	if l := c.Drops(); len(l) != 40 {
		t.Errorf("Drops() = %v", l)
	}
	var want []api.Word
	for k := range 64 {
		c.Drop(api.Word(100 + k))
		want = append(want, api.Word(100+k))
	}
	dropped(t, c, want...)
}

// The caller may do with the list what he likes.
func TestDropsIsTheCallers(t *testing.T) {
	c := made(t, 4)
	for n := range 130 {
		for k := range n {
			c.Drop(api.Word(k))
		}
		first := c.Drops()
		for k := range first {
			first[k] = 7777
		}
		first = append(first, 7777, 7777)
		kept := slices.Clone(first)
		c.Drop(2)
		c.Drop(4)
		_ = append(first[:0], 8888)
		copy(kept, first)
		second := c.Drops()
		if !slices.Equal(second, []api.Word{2, 4}) {
			t.Fatalf("Drops() = %v behind a list of %d that was changed, want 2, 4", second, n)
		}
		for range 70 {
			c.Drop(6)
		}
		if !slices.Equal(first, kept) || !slices.Equal(second, []api.Word{2, 4}) {
			t.Fatalf("a drop changed a list that was told: %v, %v", first, second)
		}
		c.Drops()
	}
}

// P8.2: Clear

func TestClear(t *testing.T) {
	for _, lines := range []int{1, 2, 255, 256} {
		c := made(t, lines)
		c.Find(nil, 2, 4)
		c.Put(2, 4, 6)
		c.Find(nil, 2, 4)
		c.Find(nil, 2, 4)
		c.Drop(4)
		c.Drop(8)
		for k := range lines {
			c.Put(0, at(k), 6)
		}
		c.Clear()
		for k := range lines {
			lacks(t, c, 0, at(k))
			lacks(t, c, 0, at(k)+1)
		}
		// What was dropped and counted is not forgotten, and nothing is dropped by it.
		counts(t, c, 2, 1)
		dropped(t, c, 4, 8)
		c.Clear()
		dropped(t, c)
		c.Put(2, 4, 6)
		holds(t, c, 2, 4, 6)
	}
}

// P8.3, without a heap in which there is anything: only lines answer.

func TestFindInALine(t *testing.T) {
	h, _ := heap.New(64)
	for name, h := range map[string]*heap.Heap{"nil": nil, "not made": {}, "without objects": h} {
		for _, class := range odd {
			for _, selector := range odd {
				c := made(t, 100)
				if m, e := c.Find(h, class, selector); m != 0 || e != api.ErrLookup {
					t.Errorf("a heap %s: Find(%d, %d) = %d, error %d", name, class, selector, m, e)
				}
				counts(t, c, 0, 1)
				lacks(t, c, class, selector)
				c.Put(class, selector, 6)
				if m, e := c.Find(h, class, selector); m != 6 || e != api.OK {
					t.Errorf("a heap %s: Find(%d, %d) = %d, error %d behind Put", name, class, selector, m, e)
				}
				counts(t, c, 1, 1)
				c.Put(class, selector, 0)
				if m, e := c.Find(h, class, selector); m != 0 || e != api.OK {
					t.Errorf("a heap %s: Find(%d, %d) = %d, error %d behind Put of 0", name, class, selector, m, e)
				}
				counts(t, c, 2, 1)
				c.Drop(selector)
				if m, e := c.Find(h, class, selector); m != 0 || e != api.ErrLookup {
					t.Errorf("a heap %s: Find(%d, %d) = %d, error %d behind Drop", name, class, selector, m, e)
				}
				counts(t, c, 2, 2)
			}
		}
	}
}

// Only Find is counted.
func TestCountsOfOthers(t *testing.T) {
	c := made(t, 4)
	for range 5 {
		c.Put(2, 4, 6)
		c.Get(2, 4)
		c.Get(2, 8)
		c.Drop(4)
		c.Drops()
		c.Clear()
		c.Counts()
		counts(t, c, 0, 0)
	}
}
