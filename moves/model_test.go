package moves_test

import (
	"slices"
	"testing"

	"tappet/api"
	"tappet/moves"
)

// model is what P15.1 says, sentence by sentence: the moves, and whether the arguments may be.
func model(l []api.Move, scratch api.Src) ([]api.Move, bool) {
	if !place(scratch) {
		return nil, false
	}
	for k, m := range l {
		if !place(m.D) || m.D == scratch || m.S == scratch || m.S.Kind < 0 || m.S.Kind > 3 {
			return nil, false
		}
		for _, other := range l[:k] {
			if other.D == m.D {
				return nil, false
			}
		}
	}
	var remaining, sequence []api.Move
	for _, m := range l {
		if m.D != m.S {
			remaining = append(remaining, m)
		}
	}
	for len(remaining) > 0 {
		if k := firstThatCanGo(remaining); k >= 0 {
			sequence = append(sequence, remaining[k])
			remaining = slices.Concat(remaining[:k], remaining[k+1:])
			continue
		}
		goal := remaining[0].D
		sequence = append(sequence, mv(scratch, goal))
		for k := range remaining {
			if remaining[k].S == goal {
				remaining[k].S = scratch
			}
		}
	}
	return sequence, true
}

// firstThatCanGo is the first move whose goal is the source of no other one, -1 if there is none.
func firstThatCanGo(l []api.Move) int {
	for k, m := range l {
		waits := false
		for other, n := range l {
			waits = waits || other != k && n.S == m.D
		}
		if !waits {
			return k
		}
	}
	return -1
}

// follows holds Resolve against the model, and what it answers against P15.2: whether the arguments may be.
func follows(t *testing.T, l []api.Move, scratch api.Src) bool {
	t.Helper()
	want, ok := model(l, scratch)
	if !ok {
		refuses(t, "what the model refuses", scratch, l...)
		return false
	}
	answers(t, "the model", scratch, l, want)
	return true
}

// All small lists: up to four moves to four places, from them, from another one, and from a word.
func TestAllSmallLists(t *testing.T) {
	goals := []api.Src{a, b, cell(0), c}
	sources := append(slices.Clone(goals), d, num(7))
	var grow func(l []api.Move)
	grow = func(l []api.Move) {
		follows(t, l, x)
		if len(l) == len(goals) || t.Failed() {
			return
		}
		for _, goal := range goals {
			if slices.ContainsFunc(l, func(m api.Move) bool { return m.D == goal }) {
				continue
			}
			for _, s := range sources {
				grow(append(slices.Clip(l), mv(goal, s)))
			}
		}
	}
	grow(nil)
}

// All lists of two moves from a few sources, right ones and wrong ones, and all places for scratch.
func TestAllPairs(t *testing.T) {
	pool := []api.Src{a, b, cell(0), cell(1), num(7), self, {Kind: 4}, {Kind: -1}, {Kind: 0, N: -1}, {Kind: 3, W: 1}, {Kind: 1}}
	for _, scratch := range pool {
		follows(t, nil, scratch)
		for _, d1 := range pool {
			for _, s1 := range pool {
				follows(t, mvs(mv(d1, s1)), scratch)
				for _, d2 := range pool {
					for _, s2 := range pool {
						follows(t, mvs(mv(d1, s1), mv(d2, s2)), scratch)
					}
				}
			}
		}
	}
}

// dice is a source of numbers that are the same in each run.
type dice uint64

func (r *dice) roll(n int) int {
	*r = *r*6364136223846793005 + 1442695040888963407
	return int(*r>>33) % n
}

// places are so many places, in an order that the dice decide: registers and cells of close numbers, some of them great.
func (r *dice) places(n int) []api.Src {
	var l []api.Src
	base := []int{0, 0, 0, 100, 1 << 32, 1<<63 - 1 - n}[r.roll(6)]
	for k := range n {
		l = append(l, api.Src{Kind: 3 * r.roll(2), N: base + k})
	}
	for k := range l {
		other := r.roll(k + 1)
		l[k], l[other] = l[other], l[k]
	}
	return l
}

// moves are moves to the first so many of the places: from any of them, from one of the first few, from words, the receiver, or what is no place.
func (r *dice) moves(all []api.Src, n int) []api.Move {
	var l []api.Move
	few := 1 + r.roll(len(all))
	for _, goal := range all[:n] {
		source := all[r.roll(len(all))]
		switch r.roll(12) {
		case 0:
			source = num(api.Word(r.roll(3)))
		case 1:
			source = self
		case 2:
			source = goal
		case 3:
			source.W = api.Word(r.roll(2))
		case 4, 5, 6:
			source = all[r.roll(few)]
		}
		l = append(l, mv(goal, source))
	}
	return l
}

func TestRandomMoves(t *testing.T) {
	r := dice(15)
	for range 20000 {
		all := r.places(2 + r.roll(14))
		scratch, all := all[0], all[1:]
		if !follows(t, r.moves(all, r.roll(len(all)+1)), scratch) {
			t.Error("moves that may be are refused by the model")
		}
	}
}

// permuted are moves of places to one another, so that there are many rings.
func (r *dice) permuted(all []api.Src) []api.Move {
	sources := slices.Clone(all)
	for k := range sources {
		other := r.roll(k + 1)
		sources[k], sources[other] = sources[other], sources[k]
	}
	var l []api.Move
	for k, goal := range all {
		l = append(l, mv(goal, sources[k]))
	}
	return l
}

func TestRandomRings(t *testing.T) {
	r := dice(16)
	for range 10000 {
		all := r.places(2 + r.roll(14))
		scratch, all := all[0], all[1:]
		l := r.permuted(all)
		// Some have words instead, so that there are chains as well.
		for range r.roll(3) {
			l[r.roll(len(l))].S = num(7)
		}
		follows(t, l, scratch)
	}
	for range 20 {
		all := r.places(200)
		follows(t, r.permuted(all[1:]), all[0])
	}
}

// spoil changes one thing in a list or the place for scratch, so that the arguments may not be any more, or may be all the same.
func (r *dice) spoil(l []api.Move, scratch api.Src) ([]api.Move, api.Src) {
	l = slices.Clone(l)
	at, other := &l[r.roll(len(l))], l[r.roll(len(l))]
	spoiled := []api.Src{{Kind: 4}, {Kind: -1}, {Kind: 0, N: -1}, {Kind: 3, N: 2, W: 1}, self, num(7)}[r.roll(6)]
	switch r.roll(8) {
	case 0:
		at.D = other.D
	case 1:
		at.D = scratch
	case 2:
		at.S = scratch
	case 3:
		at.D = spoiled
	case 4:
		at.S = spoiled
	case 5:
		scratch = spoiled
	case 6:
		scratch = other.D
	case 7:
		scratch = other.S
	}
	return l, scratch
}

func TestSpoiledMoves(t *testing.T) {
	r := dice(17)
	right, wrong := 0, 0
	for range 20000 {
		all := r.places(3 + r.roll(8))
		scratch, all := all[0], all[1:]
		l, scratch := r.spoil(r.moves(all, 1+r.roll(len(all))), scratch)
		if follows(t, l, scratch) {
			right++
		} else {
			wrong++
		}
	}
	if right < 1000 || wrong < 10000 {
		t.Errorf("%d right ones and %d wrong ones", right, wrong)
	}
}

// The same call answers the same, in lists that are not shared.
func TestAgain(t *testing.T) {
	r := dice(18)
	for range 2000 {
		all := r.places(2 + r.roll(14))
		l := r.permuted(all[1:])
		first, _ := moves.Resolve(l, all[0])
		second, _ := moves.Resolve(l, all[0])
		if !slices.Equal(first, second) {
			t.Errorf("Resolve(%v, %v) = %v, and then %v", l, all[0], first, second)
		}
	}
}
