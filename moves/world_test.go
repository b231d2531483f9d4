package moves_test

import (
	"math"
	"slices"
	"testing"

	"tappet/api"
	"tappet/moves"
)

// reg and cell are places, num is a word, self the receiver.
func reg(n int) api.Src      { return api.Src{Kind: 0, N: n} }
func cell(n int) api.Src     { return api.Src{Kind: 3, N: n} }
func num(w api.Word) api.Src { return api.Src{Kind: 1, W: w} }

var self = api.Src{Kind: 2}

// Places; x is for scratch.
var (
	a, b, c, d = reg(0), reg(1), reg(2), reg(3)
	e, f, g, h = reg(4), reg(5), reg(6), reg(7)
	x          = reg(8)
)

// mv is a move to a goal from a source, and mvs the list of some.
func mv(goal, source api.Src) api.Move { return api.Move{D: goal, S: source} }
func mvs(l ...api.Move) []api.Move     { return l }

// place: is a source a register or a cell?
func place(s api.Src) bool { return (s.Kind == 0 || s.Kind == 3) && s.N >= 0 && s.W == 0 }

// chain is moves to so many registers, from one on, each from the one ahead of it; the first one is only a source.
func chain(from, n int) []api.Move {
	var l []api.Move
	for k := range n {
		l = append(l, mv(reg(from+k+1), reg(from+k)))
	}
	return l
}

// ring is moves to so many registers, from one on, each from the one behind it, and the last one from the first.
func ring(from, n int) []api.Move {
	var l []api.Move
	for k := range n {
		l = append(l, mv(reg(from+k), reg(from+(k+1)%n)))
	}
	return l
}

// backwards is a list from its end on.
func backwards(l []api.Move) []api.Move {
	l = slices.Clone(l)
	slices.Reverse(l)
	return l
}

// renamings give each place another one. What is a move's goal or source stays, so the moves that are told are the same by other names.
func renamings() []func(api.Src) api.Src {
	var l []func(api.Src) api.Src
	for _, rename := range []func(api.Src) api.Src{
		func(s api.Src) api.Src { return s },
		func(s api.Src) api.Src { return api.Src{Kind: 3 - s.Kind, N: s.N} },
		func(s api.Src) api.Src { // of each two that have a number, one keeps its kind
			if s.N%2 == 1 {
				s.Kind = 3 - s.Kind
			}
			return s
		},
		func(s api.Src) api.Src { // places that differ in nothing but their kind
			kind := 3 * (s.N % 2)
			if s.Kind == 3 {
				return api.Src{Kind: kind, N: 1<<20 + s.N/2}
			}
			return api.Src{Kind: kind, N: s.N / 2}
		},
		func(s api.Src) api.Src { return api.Src{Kind: s.Kind, N: math.MaxInt - s.N} },
		func(s api.Src) api.Src { return api.Src{Kind: s.Kind, N: s.N << 32} },
	} {
		l = append(l, func(s api.Src) api.Src {
			if place(s) {
				return rename(s)
			}
			return s
		})
	}
	return l
}

// renamed is a list with other places.
func renamed(l []api.Move, rename func(api.Src) api.Src) []api.Move {
	var other []api.Move
	for _, m := range l {
		other = append(other, mv(rename(m.D), rename(m.S)))
	}
	return other
}

// resolves holds Resolve against the moves that it answers, with x for scratch, under each renaming.
func resolves(t *testing.T, what string, l []api.Move, want ...api.Move) {
	t.Helper()
	for k, rename := range renamings() {
		answers(t, what+", renaming "+string(rune('0'+k)), rename(x), renamed(l, rename), renamed(want, rename))
	}
}

// answers holds one call against the moves that it answers.
func answers(t *testing.T, what string, scratch api.Src, l, want []api.Move) {
	t.Helper()
	was := slices.Clone(l)
	got, errno := moves.Resolve(l, scratch)
	if errno != api.OK || !slices.Equal(got, want) {
		t.Errorf("%s: Resolve(%v, %v) = %v, error %d, want %v", what, l, scratch, got, errno, want)
	}
	if !slices.Equal(l, was) {
		t.Errorf("%s: the list is %v, was %v", what, l, was)
	}
	atOnce(t, l, scratch, got)
}

// refuses holds Resolve against ErrArg and no moves.
func refuses(t *testing.T, what string, scratch api.Src, l ...api.Move) {
	t.Helper()
	was := slices.Clone(l)
	if got, errno := moves.Resolve(l, scratch); errno != api.ErrArg || got != nil {
		t.Errorf("%s: Resolve(%v, %v) = %v, error %d, want none, error 1", what, l, scratch, got, errno)
	}
	if !slices.Equal(l, was) {
		t.Errorf("%s: the list is %v, was %v", what, l, was)
	}
}

// contents is what each source contains.
type contents map[api.Src]int

// contentsOf is a content of its own for each source of the lists, each place beside them, and a few others.
func contentsOf(scratch api.Src, l ...[]api.Move) contents {
	has := contents{}
	look := func(s api.Src) {
		if _, ok := has[s]; !ok {
			has[s] = len(has) + 1
		}
	}
	for _, m := range slices.Concat(l...) {
		look(m.D)
		look(m.S)
	}
	look(scratch)
	for n := range 12 {
		look(reg(n))
		look(cell(n))
	}
	return has
}

// atOnce holds what Resolve answered for a valid list against P15.2: each place is looked at before and behind all moves.
func atOnce(t *testing.T, l []api.Move, scratch api.Src, got []api.Move) {
	t.Helper()
	before, now := contentsOf(scratch, l, got), contentsOf(scratch, l, got)
	for _, m := range got {
		now[m.D] = now[m.S]
	}
	want := contentsOf(scratch, l, got)
	for _, m := range l {
		want[m.D] = before[m.S]
	}
	for s, n := range now {
		if s != scratch && n != want[s] {
			t.Errorf("Resolve(%v, %v) = %v: %v has the content %d, want %d", l, scratch, got, s, n, want[s])
		}
	}
	if 2*len(got) > 3*len(l) {
		t.Errorf("Resolve(%v, %v) = %v: %d moves of %d", l, scratch, got, len(got), len(l))
	}
	if fewest := fewestMoves(l); len(got) != fewest {
		t.Errorf("Resolve(%v, %v) = %v: %d moves, want %d", l, scratch, got, len(got), fewest)
	}
}

// fewestMoves is one for each move that has another goal than its source, and one more for each ring of them.
func fewestMoves(l []api.Move) int {
	n := 0
	from := map[api.Src]api.Src{}
	for _, m := range l {
		if m.D != m.S {
			from[m.D] = m.S
			n++
		}
	}
	inRing := map[api.Src]int{}
	for start := range from {
		// Whoever goes back from a place in a ring comes by it again.
		s, ok := from[start]
		for steps := 0; ok && s != start && steps < len(from); steps++ {
			s, ok = from[s]
		}
		if !ok || s != start || inRing[start] > 0 {
			continue
		}
		n++
		for inRing[s] == 0 {
			inRing[s]++
			s = from[s]
		}
	}
	return n
}
