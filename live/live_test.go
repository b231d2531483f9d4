package live_test

import (
	"math"
	"reflect"
	"slices"
	"testing"

	"tappet/api"
	"tappet/gen"
	"tappet/ir"
	"tappet/live"
)

// P13.1

// generated is a method's unit.
func generated(t *testing.T, temps, stack int, code ...api.Instr) api.Unit {
	t.Helper()
	u, e := gen.Gen(api.Method{Temps: temps, Stack: stack, Lits: []api.Word{ref(50)}, Code: code}, ref(7))
	if e != api.OK {
		t.Fatalf("Gen(%v) = error %d", code, e)
	}
	return u
}

func TestExample(t *testing.T) {
	u := generated(t, 1, 2, []api.Instr{{Op: 1}, {Op: 8, A: 2049}, {Op: 13}, {Op: 2}, {Op: 18}}...)
	uses(t, "the example", u, in(0, 0, 4), in(1, 2, 3))
}

func TestUnitsOfMethods(t *testing.T) {
	// The temporaries are in use as far as instructions are reached, from the first one on.
	uses(t, "a return alone", generated(t, 3, 1, api.Instr{Op: 18}), in(0, 0, 0), in(1, 0, 0), in(2, 0, 0))
	uses(t, "unreached ones at the end", generated(t, 2, 1, api.Instr{Op: 6}, api.Instr{Op: 10}, api.Instr{Op: 18}, api.Instr{Op: 6}, api.Instr{Op: 17}),
		in(0, 0, 2), in(1, 0, 2))
	uses(t, "unreached ones in between", generated(t, 1, 1, api.Instr{Op: 14, A: 3}, api.Instr{Op: 6}, api.Instr{Op: 17}, api.Instr{Op: 18}),
		in(0, 0, 3))
	// The map ahead of the last reached instruction contains them too where that is a trap.
	uses(t, "a trap", generated(t, 1, 1, api.Instr{Op: 7}, api.Instr{Op: 17}), in(0, 0, 1), in(1, 1, 1))
	// A word on the stack that is only noted takes no register, one that is loaded takes its home.
	uses(t, "fields", generated(t, 0, 3, api.Instr{Op: 6}, api.Instr{Op: 4}, api.Instr{Op: 8, A: 5}, api.Instr{Op: 11, B: 2}, api.Instr{Op: 17}),
		in(0, 3, 4), in(1, 1, 3))
	uses(t, "no registers", generated(t, 0, 1, api.Instr{Op: 8, A: 5}, api.Instr{Op: 17}))
	// What is brought home ahead of a loop stays in use there.
	uses(t, "a loop", generated(t, 1, 2, api.Instr{Op: 8, A: 5}, api.Instr{Op: 1}, api.Instr{Op: 16, A: 1}, api.Instr{Op: 17}),
		in(0, 0, 3), in(1, 0, 3), in(2, 1, 2))
}

func TestOnlyMaps(t *testing.T) {
	uses(t, "all through", unit(1, 0, noted(reg(0)), noted(reg(0)), noted(reg(0))), in(0, 0, 2))
	uses(t, "the first and the last", unit(1, 0, noted(reg(0)), nothing(), noted(reg(0))), in(0, 0, 2))
	uses(t, "often in one map", unit(2, 0, nothing(), noted(reg(1), reg(1), self(), reg(1)), nothing()), in(1, 1, 1))
	uses(t, "from the greatest down", unit(4, 0, noted(reg(3)), noted(reg(2)), noted(reg(1)), noted(reg(0))),
		in(0, 3, 3), in(1, 2, 2), in(2, 1, 1), in(3, 0, 0))
	uses(t, "temporaries and stack", api.Unit{Method: ref(7), Temps: 1, Regs: 3, Starts: []int{0, 0, 0}, Maps: [][]api.Src{{reg(2), reg(0)}, {reg(2)}}},
		in(0, 0, 0), in(2, 0, 1))
}

func TestOnlyCode(t *testing.T) {
	// Each instruction in the middle one of three parts, with registers in all places that it has.
	for _, c := range []struct {
		what string
		i    api.Ins
		used []int
	}{
		{"move", move(reg(3), reg(1)), []int{1, 3}},
		{"move to itself", move(reg(3), reg(3)), []int{3}},
		{"move of a word", move(reg(3), lit(num(0))), []int{3}},
		{"move to a cell", move(cell(0), reg(4)), []int{4}},
		{"arith", arith(reg(5), reg(0), reg(2)), []int{0, 2, 5}},
		{"arith of one", arith(reg(2), reg(2), reg(2)), []int{2}},
		{"arith, one left", arith(cell(1), reg(1), self()), []int{1}},
		{"arith, one right", arith(cell(1), lit(ref(3)), reg(5)), []int{5}},
		{"load", load(reg(4)), []int{4}},
		{"store", store(reg(0)), []int{0}},
		{"branch", branch(2, reg(5)), []int{5}},
		{"send", send(reg(0), reg(5), reg(4), reg(3), reg(2), reg(1)), []int{0, 1, 2, 3, 4, 5}},
		{"send of the last", send(cell(0), self(), lit(num(1)), cell(1), self(), reg(3)), []int{3}},
		{"send of the receiver", send(reg(2), self()), []int{2}},
		{"return", ret(reg(1)), []int{1}},
		// Those without registers.
		{"move of a cell", move(cell(1), cell(0)), nil},
		{"arith of words", arith(cell(1), lit(num(3)), self()), nil},
		{"load to a cell", load(cell(1)), nil},
		{"store of the receiver", store(self()), nil},
		{"jump", jump(2), nil},
		{"branch on a cell", branch(0, cell(0)), nil},
		{"send of cells", send(cell(0), cell(1), cell(0)), nil},
		{"return of a word", ret(lit(ref(1))), nil},
		{"trap", trap(), nil},
	} {
		var want []api.Interval
		for _, v := range c.used {
			want = append(want, in(v, 1, 1))
		}
		uses(t, c.what, unit(6, 2, nothing(), coded(c.i), nothing()), want...)
		uses(t, c.what+", first of three", unit(6, 2, nothing(), coded(c.i, trap(), jump(0)), nothing()), want...)
		uses(t, c.what+", last of three", unit(6, 2, nothing(), coded(trap(), jump(0), c.i), nothing()), want...)
	}
}

func TestMapsAndCode(t *testing.T) {
	uses(t, "read, then noted", unit(1, 0, coded(store(reg(0))), nothing(), noted(reg(0))), in(0, 0, 2))
	uses(t, "noted, then written", unit(1, 0, noted(reg(0)), nothing(), coded(load(reg(0)))), in(0, 0, 2))
	uses(t, "written, then read", unit(1, 0, coded(load(reg(0))), nothing(), coded(ret(reg(0)))), in(0, 0, 2))
	uses(t, "read, then written", unit(1, 0, coded(store(reg(0))), nothing(), coded(load(reg(0)))), in(0, 0, 2))
	uses(t, "noted and written at one", unit(2, 0, nothing(), part{srcs(reg(1)), []api.Ins{load(reg(1))}}, nothing()), in(1, 1, 1))
	uses(t, "one part with all", unit(4, 0, part{srcs(reg(2)), []api.Ins{load(reg(3)), store(reg(0))}}), in(0, 0, 0), in(2, 0, 0), in(3, 0, 0))
	// A jump doesn't make the interval greater.
	uses(t, "a way back", unit(1, 0, nothing(), coded(load(reg(0))), coded(store(reg(0)), jump(0))), in(0, 1, 2))
}

func TestUnusedRegisters(t *testing.T) {
	uses(t, "none at all", unit(0, 0, nothing()))
	uses(t, "none is used", unit(4096, 0, nothing(), coded(trap()), nothing()))
	uses(t, "at the beginning", unit(3, 0, noted(reg(2)), nothing()), in(2, 0, 0))
	uses(t, "between", unit(3, 0, noted(reg(2)), noted(reg(0))), in(0, 1, 1), in(2, 0, 0))
	uses(t, "at the end", unit(3, 0, nothing(), noted(reg(0))), in(0, 1, 1))
	uses(t, "but the last of 4096", unit(4096, 0, nothing(), coded(ret(reg(4095)))), in(4095, 1, 1))
}

func TestManyRegisters(t *testing.T) {
	// Each of 4096 registers is used at two instructions out of 128, the greatest ones first.
	parts := make([]part, 128)
	var want []api.Interval
	for v := 4095; v >= 0; v-- {
		k := (4095 - v) / 64
		parts[k].code = append(parts[k].code, load(reg(v)))
		parts[127-k].code = append(parts[127-k].code, store(reg(v)))
	}
	for v := range 4096 {
		k := (4095 - v) / 64
		want = append(want, in(v, k, 127-k))
	}
	uses(t, "4096 registers", unit(4096, 0, parts...), want...)
}

func TestWhatIsNoRegister(t *testing.T) {
	// Numbers of cells that are those of registers too, and words that look like them.
	uses(t, "in maps", unit(3, 3, noted(cell(0), lit(1), self(), lit(2)), noted(cell(2), cell(1)), noted(reg(1)), noted(cell(1))), in(1, 2, 2))
	uses(t, "in code", unit(3, 3, coded(move(cell(0), cell(1)), arith(cell(2), lit(2), self())), coded(store(cell(1))), coded(ret(self()))))
	uses(t, "beside one", unit(1, 1, coded(arith(cell(0), self(), cell(0))), coded(arith(reg(0), self(), cell(0))), coded(arith(cell(0), cell(0), lit(1)))),
		in(0, 1, 1))
}

func TestEnter(t *testing.T) {
	u := unit(4, 2, nothing(), noted(reg(2)), coded(load(reg(1))))
	u.Enter = []api.Ins{move(reg(3), reg(0)), move(reg(2), reg(1)), move(cell(0), reg(3)), move(reg(0), lit(num(1)))}
	uses(t, "moves at the beginning", u, in(1, 2, 2), in(2, 1, 1))
}

func TestEmptyLists(t *testing.T) {
	u := unit(1, 0, noted(), nothing())
	u.Enter, u.Code, u.Maps = []api.Ins{}, []api.Ins{}, [][]api.Src{{}, {}}
	uses(t, "empty lists", u)
	u.Enter, u.Code, u.Maps = nil, nil, [][]api.Src{nil, nil}
	uses(t, "nil lists", u)
}

// whole is a unit that uses each kind of source in each list.
func whole() api.Unit {
	u := unit(3, 2,
		noted(reg(0), reg(1), cell(1)),
		part{srcs(reg(1), lit(num(4)), self()), []api.Ins{load(reg(2)), branch(3, reg(2))}},
		coded(send(reg(0), reg(2), cell(0)), store(self()), jump(0)),
		part{srcs(cell(0), reg(0)), []api.Ins{arith(cell(1), reg(0), reg(1)), ret(cell(1))}})
	u.Temps, u.Args = 2, 1
	u.Enter = []api.Ins{move(cell(0), reg(0))}
	return u
}

func TestRefused(t *testing.T) {
	uses(t, "as it is", whole(), in(0, 0, 3), in(1, 0, 3), in(2, 1, 2))
	for what, spoil := range map[string]func(u *api.Unit){
		"no method":                  func(u *api.Unit) { u.Method = 0 },
		"too few arguments":          func(u *api.Unit) { u.Args = -1 },
		"more than the temporaries":  func(u *api.Unit) { u.Args = 3 },
		"too few temporaries":        func(u *api.Unit) { u.Temps = -1 },
		"too many temporaries":       func(u *api.Unit) { u.Temps = 17 },
		"too few registers":          func(u *api.Unit) { u.Regs = 2 },
		"no number of registers":     func(u *api.Unit) { u.Regs = -1 },
		"too many registers":         func(u *api.Unit) { u.Regs = 4097 },
		"the most registers":         func(u *api.Unit) { u.Regs = math.MaxInt },
		"too few cells":              func(u *api.Unit) { u.Spills = 1 },
		"too many cells":             func(u *api.Unit) { u.Spills = 4097 },
		"too few sites":              func(u *api.Unit) { u.Sites = 0 },
		"too many sites":             func(u *api.Unit) { u.Sites = 129 },
		"no starts":                  func(u *api.Unit) { u.Starts = nil },
		"empty starts":               func(u *api.Unit) { u.Starts = []int{} },
		"a start alone":              func(u *api.Unit) { u.Starts, u.Maps = []int{7}, nil },
		"a late first start":         func(u *api.Unit) { u.Starts[0] = 1 },
		"an early last start":        func(u *api.Unit) { u.Starts[4] = 6 },
		"a late last start":          func(u *api.Unit) { u.Starts[4] = 8 },
		"starts that fall":           func(u *api.Unit) { u.Starts[2] = 6 },
		"a start below 0":            func(u *api.Unit) { u.Starts[1] = -1 },
		"a start beyond all":         func(u *api.Unit) { u.Starts[1] = math.MaxInt },
		"too many starts":            func(u *api.Unit) { u.Starts = append(u.Starts, 7) },
		"129 parts":                  func(u *api.Unit) { u.Starts, u.Maps = append(make([]int, 129), 7), make([][]api.Src, 129) },
		"no maps":                    func(u *api.Unit) { u.Maps = nil },
		"empty maps":                 func(u *api.Unit) { u.Maps = [][]api.Src{} },
		"too few maps":               func(u *api.Unit) { u.Maps = u.Maps[1:] },
		"too many maps":              func(u *api.Unit) { u.Maps = append(u.Maps, nil) },
		"too short a map":            func(u *api.Unit) { u.Maps[3] = u.Maps[3][1:] },
		"too long a map":             func(u *api.Unit) { u.Maps[0] = slices.Repeat(srcs(reg(0)), 19) },
		"no code":                    func(u *api.Unit) { u.Code = nil },
		"empty code":                 func(u *api.Unit) { u.Code = []api.Ins{} },
		"too much code":              func(u *api.Unit) { u.Code = append(u.Code, trap()) },
		"a register too great":       func(u *api.Unit) { u.Maps[0][0] = reg(3) },
		"a register below 0":         func(u *api.Unit) { u.Maps[3][1] = reg(-1) },
		"a register with a word":     func(u *api.Unit) { u.Maps[1][0].W = num(0) },
		"a cell too great":           func(u *api.Unit) { u.Maps[0][2] = cell(2) },
		"a cell below 0":             func(u *api.Unit) { u.Code[2].L[1] = cell(-1) },
		"the word 0":                 func(u *api.Unit) { u.Maps[1][1] = lit(0) },
		"a word with a number":       func(u *api.Unit) { u.Maps[1][1].N = 1 },
		"a receiver with a number":   func(u *api.Unit) { u.Maps[1][2].N = 1 },
		"no kind of source":          func(u *api.Unit) { u.Maps[1][2].Kind = 4 },
		"a kind below 0":             func(u *api.Unit) { u.Code[1].L[0].Kind = -1 },
		"no operation":               func(u *api.Unit) { u.Code[6].Op = 0 },
		"an operation too great":     func(u *api.Unit) { u.Code[6].Op = 10 },
		"too few operands":           func(u *api.Unit) { u.Code[5].L = u.Code[5].L[:1] },
		"no operands":                func(u *api.Unit) { u.Code[6].L = nil },
		"too many operands":          func(u *api.Unit) { u.Code[0].L = srcs(reg(0)) },
		"an operand too great":       func(u *api.Unit) { u.Code[5].L[1] = reg(3) },
		"a result in a word":         func(u *api.Unit) { u.Code[0].D = lit(num(1)) },
		"a result in the receiver":   func(u *api.Unit) { u.Code[5].D = self() },
		"a result too great":         func(u *api.Unit) { u.Code[0].D = reg(3) },
		"a result of a return":       func(u *api.Unit) { u.Code[6].D = reg(1) },
		"a field below 0":            func(u *api.Unit) { u.Code[0].N = -1 },
		"a field too great":          func(u *api.Unit) { u.Code[3].N = 4096 },
		"a jump too far":             func(u *api.Unit) { u.Code[4].N = 4 },
		"a branch below 0":           func(u *api.Unit) { u.Code[1].N = -1 },
		"a branch on something else": func(u *api.Unit) { u.Code[1].W = num(2) },
		"a kind of arithmetic":       func(u *api.Unit) { u.Code[5].N = 8 },
		"a site too great":           func(u *api.Unit) { u.Code[2].N = 1 },
		"a site twice":               func(u *api.Unit) { u.Code[3] = send(reg(0), self()) },
		"no selector":                func(u *api.Unit) { u.Code[2].W = 0 },
		"a word of a load":           func(u *api.Unit) { u.Code[0].W = num(0) },
		"a load at the beginning":    func(u *api.Unit) { u.Enter[0] = load(reg(0)) },
		"a move of nothing":          func(u *api.Unit) { u.Enter[0].L = nil },
		"a move of what is not":      func(u *api.Unit) { u.Enter[0].L[0] = reg(3) },
		"a move to what is not":      func(u *api.Unit) { u.Enter[0].D = cell(2) },
	} {
		u := whole()
		spoil(&u)
		refuses(t, what, u)
	}
	refuses(t, "the zero unit", api.Unit{})
	refuses(t, "a method alone", api.Unit{Method: ref(1)})
	refuses(t, "empty lists alone", api.Unit{Method: ref(1), Enter: []api.Ins{}, Code: []api.Ins{}, Starts: []int{}, Maps: [][]api.Src{}})
}

func TestArgumentAndResult(t *testing.T) {
	u, was := whole(), ir.Copy(whole())
	l, _ := live.Intervals(u)
	if !reflect.DeepEqual(u, was) {
		t.Errorf("the unit is %v, was %v", u, was)
	}
	// Neither the unit nor an earlier answer is where later answers come from.
	kept := slices.Clone(l)
	u.Maps[0][0], u.Maps[3] = self(), nil
	u.Code[0].D, u.Code[5].L[0] = cell(0), self()
	if !slices.Equal(l, kept) {
		t.Errorf("the answer is %v, was %v", l, kept)
	}
	for k := range l {
		l[k] = in(-1, -1, -1)
	}
	uses(t, "the unit that was changed", u, in(0, 2, 2), in(1, 0, 3), in(2, 1, 2))
	uses(t, "the unit as it was", was, kept...)
	uses(t, "and again", was, kept...)
}
