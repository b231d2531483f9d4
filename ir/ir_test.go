package ir_test

import (
	"math"
	"slices"
	"testing"

	"tappet/api"
	"tappet/ir"
)

// The chapter's examples.
func TestExamples(t *testing.T) {
	if least, most := ir.Takes(7); least != 1 || most != 5 {
		t.Errorf("Takes(7) = %d, %d, want 1, 5", least, most)
	}
	if ir.Leaves(4) {
		t.Error("Leaves(4) is true")
	}
	if ir.Place(api.Src{Kind: 1, W: 5}) {
		t.Error("Place({Kind 1, W 5}) is true")
	}
	if !ir.Place(api.Src{Kind: 3, N: 2}) {
		t.Error("Place({Kind 3, N 2}) is false")
	}
}

// P11.1: Takes and Leaves

func TestOperations(t *testing.T) {
	for _, r := range table() {
		if least, most := ir.Takes(r.op); least != r.least || most != r.most {
			t.Errorf("Takes(%d) = %d, %d, want %d, %d", r.op, least, most, r.least, r.most)
		}
		if ir.Leaves(r.op) != r.leaves {
			t.Errorf("Leaves(%d) = %v", r.op, !r.leaves)
		}
	}
}

func TestNumbersOfNoOperation(t *testing.T) {
	for _, op := range noOperations() {
		if least, most := ir.Takes(op); least != 0 || most != -1 {
			t.Errorf("Takes(%d) = %d, %d, want 0, -1", op, least, most)
		}
		if ir.Leaves(op) {
			t.Errorf("Leaves(%d) is true", op)
		}
	}
}

// P11.1: Place

func TestPlace(t *testing.T) {
	numbers := []int{math.MinInt, -1 << 32, -1, 0, 1, 2, 3, 8, 4095, 4096, 1 << 32, math.MaxInt}
	for _, kind := range []int{math.MinInt, -4, -3, -1, 0, 1, 2, 3, 4, 5, 7, 8, 1 << 32, 1<<32 + 3, math.MaxInt} {
		for _, n := range numbers {
			for _, w := range []api.Word{0, 1, 2, num(-1), 1 << 32, 1 << 63, math.MaxUint64} {
				s := api.Src{Kind: kind, N: n, W: w}
				want := (kind == 0 || kind == 3) && n >= 0 && w == 0
				if ir.Place(s) != want {
					t.Errorf("Place(%v) = %v", s, !want)
				}
			}
		}
	}
}

// P11.1: Reads

func TestReads(t *testing.T) {
	for _, c := range []struct {
		l, want []api.Src
	}{
		{nil, nil},
		{srcs(), nil},
		{srcs(reg(2)), srcs(reg(2))},
		{srcs(cell(0)), srcs(cell(0))},
		{srcs(lit(num(5))), nil},
		{srcs(self()), nil},
		{srcs(self(), reg(3), lit(ref(1)), cell(3), reg(0)), srcs(reg(3), cell(3), reg(0))},
		{srcs(cell(7), reg(7), cell(7), reg(7)), srcs(cell(7), reg(7), cell(7), reg(7))},
		{srcs(reg(math.MaxInt), cell(4096)), srcs(reg(math.MaxInt), cell(4096))},
		{srcs(reg(-1), cell(math.MinInt), api.Src{Kind: 0, W: 1}, api.Src{Kind: 3, W: 8}, api.Src{Kind: 4}, api.Src{Kind: -1}, reg(1)), srcs(reg(1))},
	} {
		for _, op := range append(noOperations(), 1, 2, 3, 4, 5, 6, 7, 8, 9) {
			i := api.Ins{Op: op, N: 3, D: reg(9), L: slices.Clone(c.l), W: 4}
			got := ir.Reads(i)
			if !slices.Equal(got, c.want) {
				t.Errorf("Reads(%v) = %v, want %v", i, got, c.want)
			}
			// The list is new memory.
			for k := range got {
				got[k] = self()
			}
			if !slices.Equal(i.L, c.l) {
				t.Errorf("the operands are %v, were %v", i.L, c.l)
			}
		}
	}
}

// A list that is given is neither changed nor continued.
func TestReadsLeavesRoomBehindAlone(t *testing.T) {
	l := srcs(self(), reg(1), lit(num(1)), reg(2))
	got := ir.Reads(api.Ins{Op: 2, L: l[:2]})
	got = append(got, cell(8), cell(9))
	if !slices.Equal(l, srcs(self(), reg(1), lit(num(1)), reg(2))) || !slices.Equal(got, srcs(reg(1), cell(8), cell(9))) {
		t.Errorf("%v, %v", l, got)
	}
}

// P11.1: Writes

func TestWrites(t *testing.T) {
	for _, d := range srcs(reg(0), reg(4), cell(0), cell(4095), reg(math.MaxInt)) {
		for _, r := range table() {
			i := api.Ins{Op: r.op, N: 1, D: d, L: srcs(cell(1)), W: 1}
			want := api.Src{}
			if r.leaves {
				want = d
			}
			if got, ok := ir.Writes(i); got != want || ok != r.leaves {
				t.Errorf("Writes(%v) = %v, %v, want %v, %v", i, got, ok, want, r.leaves)
			}
		}
		for _, op := range noOperations() {
			if got, ok := ir.Writes(api.Ins{Op: op, D: d}); got != (api.Src{}) || ok {
				t.Errorf("Writes of operation %d = %v, %v", op, got, ok)
			}
		}
	}
}
