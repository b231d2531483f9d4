package scan_test

import (
	"slices"
	"testing"

	"tappet/api"
	"tappet/scan"
)

// in is an interval, and ins the list of some.
func in(v, from, to int) api.Interval      { return api.Interval{V: v, From: from, To: to} }
func ins(l ...api.Interval) []api.Interval { return l }

// spans is the intervals of so many registers, from 0 on, that are in use at the same instructions.
func spans(n, from, to int) []api.Interval { return span(0, n, from, to) }

// span is the same from another register on.
func span(v, n, from, to int) []api.Interval {
	var l []api.Interval
	for k := range n {
		l = append(l, in(v+k, from, to))
	}
	return l
}

// reg and cell are places, and places the list of some.
func reg(n int) api.Src             { return api.Src{Kind: 0, N: n} }
func cell(n int) api.Src            { return api.Src{Kind: 3, N: n} }
func places(l ...api.Src) []api.Src { return l }

// rows are registers and then cells, so many of each, from 0 on.
func rows(regs, cells int) []api.Src {
	var l []api.Src
	for k := range regs {
		l = append(l, reg(k))
	}
	for k := range cells {
		l = append(l, cell(k))
	}
	return l
}

// cellsOf is how many of the places are cells.
func cellsOf(l []api.Src) int {
	n := 0
	for _, s := range l {
		if s.Kind == 3 {
			n++
		}
	}
	return n
}

// assigns holds Assign against the places of the intervals, among which each cell is told once, and against the same in a few other orders of the list.
func assigns(t *testing.T, what string, regs int, l []api.Interval, want ...api.Src) {
	t.Helper()
	for _, order := range orders(len(l)) {
		list, places := pick(l, order), pick(want, order)
		was := slices.Clone(list)
		got, cells, e := scan.Assign(list, regs)
		if e != api.OK || !slices.Equal(got, places) || cells != cellsOf(want) {
			t.Errorf("%s: Assign(%v, %d) = %v, %d cells, error %d, want %v, %d cells", what, list, regs, got, cells, e, places, cellsOf(want))
		}
		if !slices.Equal(list, was) {
			t.Errorf("%s: the list is %v, was %v", what, list, was)
		}
	}
}

// orders are a few orders of so many numbers: as they are, backwards, turned by one, and the odd ones ahead of the even ones.
func orders(n int) [][]int {
	var straight, split []int
	for k := range n {
		straight = append(straight, k)
		if k%2 == 1 {
			split = append(split, k)
		}
	}
	for k := 0; k < n; k += 2 {
		split = append(split, k)
	}
	if n == 0 {
		return [][]int{straight}
	}
	backwards := slices.Clone(straight)
	slices.Reverse(backwards)
	return [][]int{straight, backwards, append(slices.Clone(straight[1:]), 0), split}
}

// permutations are all orders of so many numbers.
func permutations(n int) [][]int {
	if n == 0 {
		return [][]int{nil}
	}
	var l [][]int
	for _, order := range permutations(n - 1) {
		for at := range n {
			l = append(l, slices.Insert(slices.Clone(order), at, n-1))
		}
	}
	return l
}

// pick is the elements of a list that stand at these places.
func pick[E any](l []E, order []int) []E {
	var found []E
	for _, k := range order {
		found = append(found, l[k])
	}
	return found
}

// refuses holds Assign against ErrArg, no places and 0 cells.
func refuses(t *testing.T, what string, regs int, l ...api.Interval) {
	t.Helper()
	was := slices.Clone(l)
	if got, cells, e := scan.Assign(l, regs); e != api.ErrArg || got != nil || cells != 0 {
		t.Errorf("%s: Assign(%v, %d) = %v, %d cells, error %d, want none, 0 cells, error 1", what, l, regs, got, cells, e)
	}
	if !slices.Equal(l, was) {
		t.Errorf("%s: the list is %v, was %v", what, l, was)
	}
}
