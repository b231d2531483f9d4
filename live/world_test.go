package live_test

import (
	"slices"
	"testing"

	"tappet/api"
	"tappet/ir"
	"tappet/live"
)

// num and ref are words, worked out from chapter 1's sentences.
func num(n int) api.Word  { return api.Word(2*n + 1) }
func ref(at int) api.Word { return api.Word(2 * at) }

// The sources, and the list of some.
func reg(n int) api.Src           { return api.Src{Kind: 0, N: n} }
func lit(w api.Word) api.Src      { return api.Src{Kind: 1, W: w} }
func self() api.Src               { return api.Src{Kind: 2} }
func cell(n int) api.Src          { return api.Src{Kind: 3, N: n} }
func srcs(l ...api.Src) []api.Src { return l }

// The instructions of register code.
func move(d, s api.Src) api.Ins            { return api.Ins{Op: 1, D: d, L: srcs(s)} }
func arith(d, x, y api.Src) api.Ins        { return api.Ins{Op: 2, D: d, L: srcs(x, y)} }
func load(d api.Src) api.Ins               { return api.Ins{Op: 3, N: 4095, D: d} }
func store(s api.Src) api.Ins              { return api.Ins{Op: 4, N: 4095, L: srcs(s)} }
func jump(to int) api.Ins                  { return api.Ins{Op: 5, N: to} }
func branch(to int, s api.Src) api.Ins     { return api.Ins{Op: 6, N: to, L: srcs(s), W: num(1)} }
func send(d api.Src, l ...api.Src) api.Ins { return api.Ins{Op: 7, D: d, L: l, W: ref(9)} }
func ret(s api.Src) api.Ins                { return api.Ins{Op: 8, L: srcs(s)} }
func trap() api.Ins                        { return api.Ins{Op: 9} }

// part is what belongs to an instruction of bytecode: its map, and its code.
type part struct {
	noted []api.Src
	code  []api.Ins
}

func noted(l ...api.Src) part { return part{noted: l} }
func coded(l ...api.Ins) part { return part{code: l} }

// nothing is a part without map and code.
func nothing() part { return part{} }

// unit is one of these parts, without temporaries, with so many registers and cells.
func unit(regs, spills int, parts ...part) api.Unit {
	u := api.Unit{Method: ref(7), Regs: regs, Spills: spills, Starts: []int{0}}
	for _, p := range parts {
		for _, i := range p.code {
			if i.Op == 7 {
				i.N = u.Sites
				u.Sites++
			}
			u.Code = append(u.Code, i)
		}
		u.Starts = append(u.Starts, len(u.Code))
		u.Maps = append(u.Maps, p.noted)
	}
	return u
}

// in is an interval.
func in(v, from, to int) api.Interval { return api.Interval{V: v, From: from, To: to} }

// uses holds Intervals against a unit's intervals.
func uses(t *testing.T, what string, u api.Unit, want ...api.Interval) {
	t.Helper()
	if e := ir.Check(u); e != api.OK {
		t.Fatalf("%s: Check = error %d", what, e)
	}
	if l, e := live.Intervals(u); e != api.OK || !slices.Equal(l, want) {
		t.Errorf("%s: Intervals = %v, error %d, want %v", what, l, e, want)
	}
}

// refuses holds Intervals against ErrArg and no intervals.
func refuses(t *testing.T, what string, u api.Unit) {
	t.Helper()
	if l, e := live.Intervals(u); e != api.ErrArg || l != nil {
		t.Errorf("%s: Intervals = %v, error %d, want none, error 1", what, l, e)
	}
}
