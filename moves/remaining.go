package moves

import (
	"slices"

	"tappet/api"
)

// remaining is the moves that are not done yet, in the order of the list, and how many of them have each source. No move of them has its goal as its source, so a goal without readers is the source of no other one.
type remaining struct {
	moves   []api.Move
	readers map[api.Src]int
}

// remainingOf is the moves of a list that change something.
func remainingOf(l []api.Move) remaining {
	r := remaining{readers: map[api.Src]int{}}
	for _, m := range l {
		if m.D != m.S {
			r.moves = append(r.moves, m)
			r.readers[m.S]++
		}
	}
	return r
}

// remove takes a move out, and tells which one it was.
func (r *remaining) remove(at int) api.Move {
	m := r.moves[at]
	r.moves = slices.Delete(r.moves, at, at+1)
	r.readers[m.S]--
	return m
}

// replace has the moves from one place be moves from another one.
func (r *remaining) replace(old, other api.Src) {
	for k := range r.moves {
		if r.moves[k].S == old {
			r.moves[k].S = other
		}
	}
	r.readers[other] += r.readers[old]
	r.readers[old] = 0
}
