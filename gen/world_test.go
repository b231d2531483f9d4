package gen_test

import (
	"slices"
	"testing"

	"tappet/api"
	"tappet/gen"
	"tappet/ir"
)

// num and ref are words, worked out from chapter 1's sentences.
func num(n int) api.Word  { return api.Word(2*n + 1) }
func ref(at int) api.Word { return api.Word(2 * at) }

// The sources, and the list of some.
func reg(n int) api.Src           { return api.Src{Kind: 0, N: n} }
func lit(w api.Word) api.Src      { return api.Src{Kind: 1, W: w} }
func self() api.Src               { return api.Src{Kind: 2} }
func srcs(l ...api.Src) []api.Src { return l }

// regs are the registers from one number to ahead of another.
func regs(from, to int) []api.Src {
	l := srcs()
	for n := from; n < to; n++ {
		l = append(l, reg(n))
	}
	return l
}

// in is an instruction of bytecode.
func in(op int, operands ...int) api.Instr {
	operands = append(operands, 0, 0)
	return api.Instr{Op: op, A: operands[0], B: operands[1]}
}

// The instructions of register code.
func move(d, s api.Src) api.Ins            { return api.Ins{Op: 1, D: d, L: srcs(s)} }
func arith(n int, d, x, y api.Src) api.Ins { return api.Ins{Op: 2, N: n, D: d, L: srcs(x, y)} }
func load(n int, d api.Src) api.Ins        { return api.Ins{Op: 3, N: n, D: d} }
func store(n int, s api.Src) api.Ins       { return api.Ins{Op: 4, N: n, L: srcs(s)} }
func jump(n int) api.Ins                   { return api.Ins{Op: 5, N: n} }
func branch(n, wanted int, s api.Src) api.Ins {
	return api.Ins{Op: 6, N: n, L: srcs(s), W: num(wanted)}
}
func send(site int, w api.Word, d api.Src, l ...api.Src) api.Ins {
	return api.Ins{Op: 7, N: site, D: d, L: l, W: w}
}
func ret(s api.Src) api.Ins { return api.Ins{Op: 8, L: srcs(s)} }
func trap() api.Ins         { return api.Ins{Op: 9} }

// code is the list of some.
func code(l ...api.Ins) []api.Ins { return l }

// lits are the literals of the methods of the tests; none of them is a word that a PushInt of them pushes.
func lits() []api.Word { return []api.Word{ref(50), ref(51), num(-3000), ref(53)} }

func method(temps, stack int, l ...api.Instr) api.Method {
	return api.Method{Temps: temps, Stack: stack, Lits: lits(), Code: l}
}

// part is what belongs to an instruction of bytecode: what is on the simulated stack ahead of it, and its code.
type part struct {
	stack []api.Src
	code  []api.Ins
}

// unreached is the part of an instruction that no way reaches.
func unreached() part { return part{} }

// unit is the unit of a method with these parts; those gone have an empty map.
func unit(m api.Method, gone []int, parts ...part) api.Unit {
	u := api.Unit{Method: ref(77), Args: m.Args, Temps: m.Temps, Regs: m.Temps + m.Stack, Starts: []int{0}}
	for k, p := range parts {
		for _, i := range p.code {
			if i.Op == api.InsSend {
				u.Sites++
			}
		}
		u.Code = append(u.Code, p.code...)
		u.Starts = append(u.Starts, len(u.Code))
		if slices.Contains(gone, k) {
			u.Maps = append(u.Maps, nil)
		} else {
			u.Maps = append(u.Maps, append(regs(0, m.Temps), p.stack...))
		}
	}
	return u
}

func sameIns(a, b api.Ins) bool {
	return a.Op == b.Op && a.N == b.N && a.D == b.D && a.W == b.W && slices.Equal(a.L, b.L)
}

func sameUnit(a, b api.Unit) bool {
	return a.Method == b.Method && a.Args == b.Args && a.Temps == b.Temps && a.Regs == b.Regs && a.Spills == b.Spills && a.Sites == b.Sites &&
		slices.EqualFunc(a.Enter, b.Enter, sameIns) &&
		slices.EqualFunc(a.Code, b.Code, sameIns) &&
		slices.Equal(a.Starts, b.Starts) &&
		slices.EqualFunc(a.Maps, b.Maps, slices.Equal[[]api.Src])
}

// isZero: is a unit the one beside an error?
func isZero(u api.Unit) bool {
	return sameUnit(u, api.Unit{}) && u.Enter == nil && u.Code == nil && u.Starts == nil && u.Maps == nil
}

// generates holds Gen against the parts of a method all of whose instructions are reached.
func generates(t *testing.T, m api.Method, parts ...part) {
	t.Helper()
	generatesSome(t, m, nil, parts...)
}

// generatesSome likewise, where those gone are not reached.
func generatesSome(t *testing.T, m api.Method, gone []int, parts ...part) {
	t.Helper()
	if len(parts) != len(m.Code) {
		t.Fatalf("%v: %d parts for %d instructions", m, len(parts), len(m.Code))
	}
	want := unit(m, gone, parts...)
	u, e := gen.Gen(m, ref(77))
	if e != api.OK || !sameUnit(u, want) {
		t.Fatalf("Gen(%v) = error %d,\n%v, want\n%v", m, e, u, want)
	}
	if e := ir.Check(u); e != api.OK {
		t.Fatalf("Check(%v) = error %d", u, e)
	}
}

// refuses holds Gen against the error that it should answer.
func refuses(t *testing.T, what string, m api.Method, w api.Word, want api.Errno) {
	t.Helper()
	u, e := gen.Gen(m, w)
	if e != want || !isZero(u) {
		t.Errorf("%s: Gen(%v, %d) = error %d, %v, want error %d and a zero unit", what, m, w, e, u, want)
	}
}
