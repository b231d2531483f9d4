package scan_test

import (
	"math"
	"slices"
	"testing"

	"tappet/api"
	"tappet/scan"
)

// P14.1

func TestExample(t *testing.T) {
	assigns(t, "the example", 1, ins(in(0, 0, 5), in(1, 2, 3), in(2, 4, 6)), cell(0), reg(0), reg(0))
	assigns(t, "the example in two registers", 2, ins(in(0, 0, 5), in(1, 2, 3), in(2, 4, 6)), reg(0), reg(1), reg(1))
}

func TestOneInterval(t *testing.T) {
	for regs := 1; regs <= 8; regs++ {
		assigns(t, "from 0", regs, ins(in(0, 0, 0)), reg(0))
		assigns(t, "later", regs, ins(in(4095, 3, 127)), reg(0))
	}
}

func TestNoIntervals(t *testing.T) {
	for regs := 1; regs <= 8; regs++ {
		assigns(t, "nil", regs, nil)
		assigns(t, "an empty list", regs, ins())
	}
}

func TestReleased(t *testing.T) {
	assigns(t, "one register, three times", 1, ins(in(0, 0, 1), in(1, 2, 3), in(2, 4, 4)), reg(0), reg(0), reg(0))
	assigns(t, "the second register, three times", 2, ins(in(0, 0, 9), in(1, 1, 2), in(2, 3, 4), in(3, 5, 5)), reg(0), reg(1), reg(1), reg(1))
	assigns(t, "long after its end", 1, ins(in(0, 0, 1), in(1, 100, 101)), reg(0), reg(0))
	assigns(t, "one after the other", 2, ins(in(0, 0, 4), in(1, 1, 5), in(2, 5, 8), in(3, 6, 9), in(4, 9, 9)), reg(0), reg(1), reg(0), reg(1), reg(0))
}

func TestReleasedAtOnce(t *testing.T) {
	assigns(t, "all but the last", 3, ins(in(0, 0, 2), in(1, 0, 2), in(2, 0, 9), in(3, 3, 5), in(4, 3, 5)), reg(0), reg(1), reg(2), reg(0), reg(1))
	assigns(t, "all but the first", 3, ins(in(0, 0, 9), in(1, 0, 2), in(2, 0, 2), in(3, 3, 5), in(4, 3, 5)), reg(0), reg(1), reg(2), reg(1), reg(2))
	assigns(t, "the greatest first", 3, ins(in(0, 0, 5), in(1, 0, 9), in(2, 0, 4), in(3, 6, 7), in(4, 6, 8)), reg(0), reg(1), reg(2), reg(0), reg(2))
	assigns(t, "the least first", 3, ins(in(0, 0, 4), in(1, 0, 9), in(2, 0, 5), in(3, 6, 7), in(4, 6, 8)), reg(0), reg(1), reg(2), reg(0), reg(2))
	assigns(t, "all eight", 8, slices.Concat(spans(8, 0, 3), span(8, 9, 4, 4)), slices.Concat(rows(8, 0), rows(8, 1))...)
	// Those that are still free from the beginning count too.
	assigns(t, "a register that was never taken", 3, ins(in(0, 0, 9), in(1, 0, 2), in(2, 3, 5), in(3, 3, 5)), reg(0), reg(1), reg(1), reg(2))
	assigns(t, "the first one only", 4, ins(in(0, 0, 1), in(1, 0, 9), in(2, 2, 9), in(3, 2, 9)), reg(0), reg(1), reg(0), reg(2))
}

func TestNeighbours(t *testing.T) {
	// An interval whose To is the From of the next one keeps its register, one whose To is one less releases it.
	assigns(t, "To is From, a free register", 2, ins(in(0, 0, 3), in(1, 3, 5)), reg(0), reg(1))
	assigns(t, "To is From, no free one", 1, ins(in(0, 0, 3), in(1, 3, 5)), reg(0), cell(0))
	assigns(t, "To is From, and both end", 1, ins(in(0, 0, 3), in(1, 3, 3)), reg(0), cell(0))
	assigns(t, "To is one less, a free register", 2, ins(in(0, 0, 2), in(1, 3, 5)), reg(0), reg(0))
	assigns(t, "To is one less, no free one", 1, ins(in(0, 0, 2), in(1, 3, 5)), reg(0), reg(0))
	assigns(t, "one of each", 2, ins(in(0, 0, 3), in(1, 0, 2), in(2, 3, 5), in(3, 3, 4)), reg(0), reg(1), cell(0), reg(1))
}

func TestCells(t *testing.T) {
	assigns(t, "the current one", 1, ins(in(0, 0, 3), in(1, 1, 4)), reg(0), cell(0))
	assigns(t, "an earlier one", 1, ins(in(0, 0, 4), in(1, 1, 3)), cell(0), reg(0))
	assigns(t, "the one in the first register", 2, ins(in(0, 0, 9), in(1, 1, 8), in(2, 2, 7)), cell(0), reg(1), reg(0))
	assigns(t, "the one in the second register", 3, ins(in(0, 0, 7), in(1, 1, 9), in(2, 2, 8), in(3, 3, 6)), reg(0), cell(0), reg(2), reg(1))
	assigns(t, "one after the other", 1, ins(in(0, 0, 9), in(1, 1, 8), in(2, 2, 7), in(3, 3, 6)), cell(0), cell(1), cell(2), reg(0))
	assigns(t, "each current one", 1, ins(in(0, 0, 6), in(1, 1, 7), in(2, 2, 8), in(3, 3, 9)), reg(0), cell(0), cell(1), cell(2))
	// Register 0 is in a cell later than 2, which began behind it.
	assigns(t, "a later one first", 2, ins(in(0, 0, 20), in(1, 1, 5), in(2, 2, 30), in(3, 3, 4)), cell(1), reg(1), cell(0), reg(0))
	assigns(t, "many later ones first", 1, ins(in(0, 0, 5), in(1, 1, 9), in(2, 2, 8), in(3, 3, 7), in(4, 4, 4)), cell(3), cell(0), cell(1), cell(2), reg(0))
}

func TestInCellForever(t *testing.T) {
	// An interval in a cell neither occupies a register nor is assigned another cell.
	assigns(t, "the register is free behind it", 1, ins(in(0, 0, 99), in(1, 1, 2), in(2, 3, 50), in(3, 51, 60)), cell(0), reg(0), reg(0), reg(0))
	assigns(t, "it ends later than all", 1, ins(in(0, 0, 99), in(1, 1, 2), in(2, 2, 3)), cell(0), reg(0), cell(1))
	assigns(t, "a current one too", 1, ins(in(0, 0, 5), in(1, 1, 99), in(2, 2, 8), in(3, 6, 7)), reg(0), cell(0), cell(1), reg(0))
	// A cell is used once, even behind the end of its interval.
	assigns(t, "two that don't meet", 1, ins(in(0, 0, 2), in(1, 0, 3), in(2, 8, 9), in(3, 8, 9)), reg(0), cell(0), reg(0), cell(1))
}

func TestRegisterOfTheOneInACell(t *testing.T) {
	// The current one occupies that register, even where a lesser one is released later.
	assigns(t, "the greatest register", 2, ins(in(0, 0, 3), in(1, 0, 9), in(2, 2, 5), in(3, 4, 8)), reg(0), cell(0), reg(1), reg(0))
	assigns(t, "taken over twice", 2, ins(in(0, 0, 3), in(1, 0, 9), in(2, 1, 8), in(3, 2, 7), in(4, 8, 8)), reg(0), cell(0), cell(1), reg(1), reg(0))
	// One that took a register at this instruction can lose it again.
	assigns(t, "released and taken over at one", 2, ins(in(0, 0, 4), in(1, 0, 9), in(2, 5, 20), in(3, 5, 8)), reg(0), reg(1), cell(0), reg(0))
}

func TestEqualFrom(t *testing.T) {
	assigns(t, "V in the order of registers", 2, ins(in(5, 0, 1), in(3, 0, 9)), reg(1), reg(0))
	assigns(t, "against the order of To", 3, ins(in(2, 4, 5), in(1, 4, 9), in(3, 4, 4)), reg(1), reg(0), reg(2))
	// Which one is the current one decides what is assigned the first cell.
	assigns(t, "To rises with V", 1, ins(in(1, 0, 5), in(2, 0, 6), in(3, 0, 7)), reg(0), cell(0), cell(1))
	assigns(t, "To falls with V", 1, ins(in(1, 0, 7), in(2, 0, 6), in(3, 0, 5)), cell(0), cell(1), reg(0))
	// From comes ahead of V.
	assigns(t, "the greater V begins first", 2, ins(in(9, 0, 5), in(1, 1, 5)), reg(0), reg(1))
}

func TestEqualTo(t *testing.T) {
	assigns(t, "the current one has the greatest V", 1, ins(in(1, 0, 5), in(2, 1, 5)), reg(0), cell(0))
	assigns(t, "an earlier one has", 1, ins(in(2, 0, 5), in(1, 1, 5)), cell(0), reg(0))
	assigns(t, "the first of two has", 2, ins(in(7, 0, 5), in(3, 1, 5), in(5, 2, 5)), cell(0), reg(1), reg(0))
	assigns(t, "the second of two has", 2, ins(in(3, 0, 5), in(7, 1, 5), in(5, 2, 5)), reg(0), cell(0), reg(1))
	assigns(t, "all of one instruction", 2, ins(in(3, 4, 4), in(1, 4, 4), in(4, 4, 4), in(2, 4, 4)), cell(0), reg(0), cell(1), reg(1))
	assigns(t, "a greater To comes ahead of V", 2, ins(in(9, 0, 5), in(1, 0, 6), in(5, 2, 5)), reg(1), cell(0), reg(0))
}

func TestOneInstruction(t *testing.T) {
	assigns(t, "beside one another", 1, ins(in(0, 0, 0), in(1, 1, 1), in(2, 2, 2)), reg(0), reg(0), reg(0))
	assigns(t, "within another one", 1, ins(in(0, 0, 4), in(1, 2, 2)), cell(0), reg(0))
	assigns(t, "at the beginning of another one", 1, ins(in(1, 2, 2), in(0, 2, 4)), reg(0), cell(0))
	assigns(t, "at the end of another one", 1, ins(in(0, 0, 4), in(1, 4, 4)), reg(0), cell(0))
}

func TestAsManyAsRegisters(t *testing.T) {
	for regs := 1; regs <= 8; regs++ {
		assigns(t, "as many", regs, spans(regs, 7, 7), rows(regs, 0)...)
		assigns(t, "one more", regs, spans(regs+1, 7, 7), rows(regs, 1)...)
		assigns(t, "as many, from 0 on", regs, spans(regs, 0, 9), rows(regs, 0)...)
		assigns(t, "one more, from 0 on", regs, spans(regs+1, 0, 9), rows(regs, 1)...)
		assigns(t, "one less, and two later", regs, slices.Concat(spans(regs-1, 0, 3), ins(in(20, 1, 2), in(21, 3, 5))),
			append(rows(regs-1, 0), reg(regs-1), reg(regs-1))...)
		assigns(t, "as many, and one at their end", regs, slices.Concat(spans(regs, 0, 3), ins(in(20, 3, 5))), rows(regs, 1)...)
		assigns(t, "as many, and one behind their end", regs, slices.Concat(spans(regs, 0, 3), ins(in(20, 4, 5))), append(rows(regs, 0), reg(0))...)
	}
}

func TestManyCells(t *testing.T) {
	assigns(t, "one register", 1, spans(5001, 0, 127), rows(1, 5000)...)
	assigns(t, "eight registers", 8, spans(200, 3, 4), rows(8, 192)...)
	// Each one takes the register of the one before it.
	var nested []api.Interval
	for k := range 300 {
		nested = append(nested, in(k, k, 1000-k))
	}
	assigns(t, "nested", 1, nested, append(rows(0, 299), reg(0))...)
	// The last of the registers is taken over again and again.
	want := slices.Concat(rows(2, 0), rows(0, 297), places(reg(2)))
	assigns(t, "nested, behind two that end first", 3, slices.Concat(ins(in(-2, 0, 400), in(-1, 0, 400)), nested[:298]), want...)
}

func TestManyRegisters(t *testing.T) {
	// 4096 registers, three at each instruction, the greatest at the first one.
	var l []api.Interval
	var want []api.Src
	for v := range 4096 {
		l, want = append(l, in(4095-v, v/3, v/3)), append(want, reg(2-v%3))
	}
	want[4095] = reg(0)
	assigns(t, "three at a time", 3, l, want...)
}

func TestNumbersAtTheEnds(t *testing.T) {
	least, most := math.MinInt, math.MaxInt
	assigns(t, "V below 0", 2, ins(in(0, 0, 5), in(-1, 0, 5), in(-2, 0, 5)), cell(0), reg(1), reg(0))
	assigns(t, "V at the ends, registers", 2, ins(in(most, 0, 5), in(least, 0, 5)), reg(1), reg(0))
	assigns(t, "V at the ends, the current one", 1, ins(in(least, 0, 5), in(most, 1, 5)), reg(0), cell(0))
	assigns(t, "V at the ends, an earlier one", 1, ins(in(most, 0, 5), in(least, 1, 5)), cell(0), reg(0))
	assigns(t, "V around 0", 1, ins(in(1, 0, 5), in(least, 0, 5), in(-1, 0, 5)), cell(1), reg(0), cell(0))
	assigns(t, "V beyond that of registers", 1, ins(in(4096, 0, 1), in(most, 2, 3), in(least, 4, 5)), reg(0), reg(0), reg(0))
	assigns(t, "To at the end", 1, ins(in(0, 0, most), in(1, 1, most-1)), cell(0), reg(0))
	assigns(t, "To at the end, the current one", 1, ins(in(0, 0, most-1), in(1, 1, most)), reg(0), cell(0))
	assigns(t, "From at the end", 1, ins(in(0, 0, most-1), in(1, most, most)), reg(0), reg(0))
	assigns(t, "From at the end of another one", 2, ins(in(0, 0, most), in(1, most, most), in(2, most, most)), reg(0), reg(1), cell(0))
	assigns(t, "all there is", 1, ins(in(most, 0, most), in(least, 0, 0)), cell(0), reg(0))
}

func TestOrderOfTheList(t *testing.T) {
	// The place of an interval is the same wherever it stands, and it is told where it stands.
	l := ins(in(0, 0, 20), in(1, 1, 5), in(2, 2, 30), in(3, 3, 4), in(4, 5, 6))
	want := places(cell(1), reg(1), cell(0), reg(0), reg(0))
	for _, order := range permutations(5) {
		if got, cells, e := scan.Assign(pick(l, order), 2); e != api.OK || cells != 2 || !slices.Equal(got, pick(want, order)) {
			t.Errorf("in the order %v: %v, %d cells, error %d, want %v", order, got, cells, e, pick(want, order))
		}
	}
}

// A list that is not touched, also behind its end, and answers that share nothing with it or with one another.
func TestArgumentAndResult(t *testing.T) {
	l := ins(in(2, 4, 6), in(0, 0, 5), in(1, 2, 3), in(7, 7, 7), in(8, 8, 8))
	was := slices.Clone(l)
	got, _, _ := scan.Assign(l[:3], 1)
	if !slices.Equal(l, was) {
		t.Errorf("the list is %v, was %v", l, was)
	}
	want := places(reg(0), cell(0), reg(0))
	if !slices.Equal(got, want) {
		t.Errorf("the answer is %v, want %v", got, want)
	}
	l[0], l[1], l[2] = in(0, 0, 9), in(1, 0, 9), in(2, 0, 9)
	if !slices.Equal(got, want) {
		t.Errorf("the answer is %v, was %v", got, want)
	}
	assigns(t, "the list that was changed", 1, l[:3], reg(0), cell(0), cell(1))
	for k := range got {
		got[k] = api.Src{Kind: -1, N: -1, W: 1}
	}
	assigns(t, "the list as it was", 1, was[:3], want...)
	assigns(t, "and again", 1, was[:3], want...)
}
