package scan

import (
	"cmp"
	"slices"

	"tappet/api"
)

// allocation is how far the scan has come. Intervals are named by their numbers in the list, for their places are told in its order.
type allocation struct {
	list    []api.Interval
	places  []api.Src
	taken   []bool // of each register: does an interval occupy it?
	holders []int  // the intervals that occupy a register, in the order in which they end
	cells   int
}

// place finds a place for the current interval, which may cost another one its register.
func (a *allocation) place(current int) {
	a.release(a.list[current].From)
	if free := slices.Index(a.taken, false); free >= 0 {
		a.occupy(current, free)
		return
	}
	last := a.holders[len(a.holders)-1] // there is one, for there is at least one register
	if compareEnds(a.list[current], a.list[last]) > 0 {
		a.spill(current)
		return
	}
	a.leave(len(a.holders) - 1)
	register := a.places[last].N
	a.spill(last)
	a.occupy(current, register)
}

// release takes their registers from the holders that end ahead of an instruction.
func (a *allocation) release(from int) {
	for len(a.holders) > 0 && a.list[a.holders[0]].To < from {
		a.leave(0)
	}
}

// leave takes its register from one of the holders. Its place stays: an interval that has ended keeps it.
func (a *allocation) leave(at int) {
	k := a.holders[at]
	a.taken[a.places[k].N] = false
	a.holders = slices.Delete(a.holders, at, at+1)
}

// occupy gives an interval a register that is free.
func (a *allocation) occupy(k, register int) {
	a.taken[register] = true
	a.places[k] = api.Src{Kind: api.SrcReg, N: register}
	a.holders = append(a.holders, k)
	slices.SortFunc(a.holders, func(x, y int) int { return compareEnds(a.list[x], a.list[y]) })
}

// spill gives an interval the next cell.
func (a *allocation) spill(k int) {
	a.places[k] = api.Src{Kind: api.SrcSpill, N: a.cells}
	a.cells++
}

// compareEnds puts intervals in the order in which they end; of two that end together the one with the greater V counts as the later one.
func compareEnds(a, b api.Interval) int {
	return cmp.Or(cmp.Compare(a.To, b.To), cmp.Compare(a.V, b.V))
}
