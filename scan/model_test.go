package scan_test

import (
	"slices"
	"testing"

	"tappet/api"
	"tappet/live"
	"tappet/scan"
)

// model is what P14.1 says, sentence by sentence: the places, how many cells, and whether the list and the number of registers may be.
func model(l []api.Interval, regs int) ([]api.Src, int, bool) {
	if regs < 1 || regs > 8 {
		return nil, 0, false
	}
	for k, i := range l {
		if i.From < 0 || i.To < i.From {
			return nil, 0, false
		}
		for _, j := range l[:k] {
			if j.V == i.V {
				return nil, 0, false
			}
		}
	}
	m := &scanned{l: l, places: make([]api.Src, len(l))}
	for reg := range m.in {
		m.in[reg] = -1
	}
	done := make([]bool, len(l))
	for range l {
		k := next(l, done)
		done[k] = true
		m.process(k, regs)
	}
	return m.places, m.cells, true
}

// next is the interval that is processed next: the one with the least From, and with the least V of those.
func next(l []api.Interval, done []bool) int {
	least := -1
	for k, i := range l {
		if done[k] {
			continue
		}
		if least < 0 || i.From < l[least].From || i.From == l[least].From && i.V < l[least].V {
			least = k
		}
	}
	return least
}

// scanned is how far the model has come; in says which interval occupies each register, -1 if none does.
type scanned struct {
	l      []api.Interval
	places []api.Src
	in     [8]int
	cells  int
}

func (m *scanned) process(current, regs int) {
	for reg, k := range m.in {
		if k >= 0 && m.l[k].To < m.l[current].From {
			m.in[reg] = -1
		}
	}
	for reg := range regs {
		if m.in[reg] < 0 {
			m.in[reg], m.places[current] = current, api.Src{Kind: api.SrcReg, N: reg}
			return
		}
	}
	worst, where := current, -1
	for reg := range regs {
		i, w := m.l[m.in[reg]], m.l[worst]
		if i.To > w.To || i.To == w.To && i.V > w.V {
			worst, where = m.in[reg], reg
		}
	}
	m.places[worst] = api.Src{Kind: api.SrcSpill, N: m.cells}
	m.cells++
	if worst != current {
		m.in[where], m.places[current] = current, api.Src{Kind: api.SrcReg, N: where}
	}
}

// P14.2

// bound holds the answer for a valid list against the consequences.
func bound(t *testing.T, l []api.Interval, regs int, got []api.Src, cells int) {
	t.Helper()
	most := 0
	for k, i := range l {
		meeting := 0
		for m, j := range l {
			if m != k && live.Meet(i, j) && got[k] == got[m] {
				t.Errorf("%v and %v meet, and are both at %v", i, j, got[k])
			}
			if j.From <= i.From && i.From <= j.To {
				meeting++
			}
		}
		most = max(most, meeting)
	}
	if most <= regs && cells != 0 {
		t.Errorf("%d cells, though no instruction lies in more than %d intervals", cells, most)
	}
	if cells < most-regs {
		t.Errorf("%d cells, though an instruction lies in %d intervals", cells, most)
	}
	// Each cell has an interval, and one only.
	used := make([]int, cells)
	for k, s := range got {
		switch {
		case s == reg(s.N) && s.N >= 0 && s.N < regs:
		case s == cell(s.N) && s.N >= 0 && s.N < cells:
			used[s.N]++
		default:
			t.Errorf("%v is at %v, of %d registers and %d cells", l[k], s, regs, cells)
		}
	}
	for n, times := range used {
		if times != 1 {
			t.Errorf("cell %d is assigned %d times", n, times)
		}
	}
}

// follows holds Assign against the model, and what it answers against P14.2: whether the arguments may be.
func follows(t *testing.T, l []api.Interval, regs int) bool {
	t.Helper()
	was := slices.Clone(l)
	places, n, ok := model(l, regs)
	if !ok {
		refuses(t, "what the model refuses", regs, l...)
		return false
	}
	got, cells, e := scan.Assign(l, regs)
	if e != api.OK || cells != n || !slices.Equal(got, places) {
		t.Errorf("%v, %d cells, error %d, want %v, %d cells", got, cells, e, places, n)
	} else {
		bound(t, l, regs, got, cells)
	}
	if !slices.Equal(l, was) {
		t.Errorf("the list is %v, was %v", l, was)
	}
	if t.Failed() {
		t.Fatalf("Assign(%v, %d)", was, regs)
	}
	return true
}

// All lists of up to four intervals in three instructions, and of up to three in five, each with their registers in all orders.
func TestAllSmallLists(t *testing.T) {
	var four, three [][]api.Interval
	for n := range 5 {
		four = append(four, lists(n, 3)...)
	}
	for n := range 4 {
		three = append(three, lists(n, 5)...)
	}
	for regs := 1; regs <= 4; regs++ {
		for _, l := range slices.Concat(four, three) {
			follows(t, l, regs)
		}
	}
}

// lists is all lists of so many intervals within so many instructions.
func lists(n, instructions int) [][]api.Interval {
	var all []api.Interval
	for from := range instructions {
		for to := from; to < instructions; to++ {
			all = append(all, in(0, from, to))
		}
	}
	count := 1
	for range n {
		count *= len(all)
	}
	var found [][]api.Interval
	for code := range count {
		for _, vs := range numbers(n) {
			var l []api.Interval
			for rest := code; len(l) < n; rest /= len(all) {
				i := all[rest%len(all)]
				i.V = vs[len(l)]
				l = append(l, i)
			}
			found = append(found, l)
		}
	}
	return found
}

// numbers are the registers of so many intervals: all orders of those from 0 on, and one that is there twice.
func numbers(n int) [][]int {
	l := permutations(n)
	if n > 1 {
		double := slices.Clone(l[0])
		double[n-1] = double[0]
		l = append(l, double)
	}
	return l
}

// dice are numbers that come in the same order in each run.
type dice uint64

func newDice(seed int) *dice {
	d := dice(seed)
	return &d
}

func (d *dice) below(n int) int {
	*d = *d*6364136223846793005 + 1442695040888963407
	return int(*d>>33) % n
}

// of is one of the given numbers.
func (d *dice) of(list ...int) int { return list[d.below(len(list))] }

// shuffle lays a list in another order.
func shuffle[E any](d *dice, l []E) {
	for k := range l {
		m := k + d.below(len(l)-k)
		l[k], l[m] = l[m], l[k]
	}
}

// list is a valid one, in any order, of intervals of many lengths.
func (d *dice) list() []api.Interval {
	instructions, longest := d.of(1, 2, 5, 20, 128, 1000), d.of(1, 2, 4, 10, 128, 1000)
	v, step := d.of(0, 0, -50, 4000), d.of(1, 1, 2, 1000)
	var l []api.Interval
	for n := d.of(0, 1, 2, 3, 5, 8, 9, 12, 20, 60, 200); n > 0; n-- {
		from := d.below(instructions)
		l = append(l, in(v, from, from+d.below(longest)))
		v += step
	}
	registers := pick(l, d.order(len(l)))
	for k := range l {
		l[k].V = registers[k].V
	}
	return l
}

// order is the numbers below one in any order.
func (d *dice) order(n int) []int {
	var l []int
	for k := range n {
		l = append(l, k)
	}
	shuffle(d, l)
	return l
}

func TestRandomIntervals(t *testing.T) {
	d := newDice(1)
	for range 4000 {
		l := d.list()
		regs := 1 + d.below(8)
		if !follows(t, l, regs) {
			t.Fatalf("the model refuses %v, %d", l, regs)
		}
		// In another order of the list each interval has the same place.
		places, _, _ := scan.Assign(l, regs)
		order := d.order(len(l))
		got, _, _ := scan.Assign(pick(l, order), regs)
		if !slices.Equal(got, pick(places, order)) {
			t.Fatalf("Assign(%v, %d) = %v, and in the order %v %v", l, regs, places, order, got)
		}
	}
}

// Lists that a change or two make of valid ones, and numbers of registers beside those that may be.
func TestSpoiledIntervals(t *testing.T) {
	d := newDice(2)
	good, bad := 0, 0
	for range 4000 {
		l := d.list()
		for n := 1 + d.below(2); n > 0 && len(l) > 0; n-- {
			i := &l[d.below(len(l))]
			*[]*int{&i.V, &i.From, &i.To}[d.below(3)] = d.of(-2, -1, 0, 1, 2, 5, 20, 128, 4000, i.From, i.To, i.From-1, l[0].V, l[len(l)-1].V)
		}
		if follows(t, l, d.of(1, 1, 2, 2, 3, 4, 5, 6, 7, 8, 0, 9, -1)) {
			good++
		} else {
			bad++
		}
	}
	if good < 500 || bad < 500 {
		t.Errorf("%d spoiled lists are valid, %d are not", good, bad)
	}
}
