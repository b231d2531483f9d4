package ir_test

import (
	"math"
	"slices"
	"strconv"
	"testing"

	"tappet/api"
	"tappet/ir"
)

// P11.2

// edited is rich with a change.
func edited(change func(u *api.Unit)) api.Unit {
	u := rich()
	change(&u)
	return u
}

// bare is a unit with so many temporaries that has nothing but a return of the receiver.
func bare(temps int) api.Unit {
	return api.Unit{Method: ref(1), Temps: temps, Code: []api.Ins{does(8, 0, 0, self())}, Starts: []int{0, 1}, Maps: [][]api.Src{nil}}
}

// long is a unit with so many parts that has all its code in the last one.
func long(parts int) api.Unit {
	u := bare(0)
	u.Starts = append(make([]int, parts), 1)
	u.Maps = make([][]api.Src, parts)
	return u
}

// checks holds Check against whether a unit is valid.
func checks(t *testing.T, what string, u api.Unit, valid bool) {
	t.Helper()
	want := api.ErrArg
	if valid {
		want = api.OK
	}
	if e := ir.Check(u); e != want {
		t.Errorf("%s: Check = error %d, want %d", what, e, want)
	}
}

// bounds holds Check against a number's least and greatest value: a unit with each, and with one beyond.
func bounds(t *testing.T, what string, least, most int, unit func(n int) api.Unit) {
	t.Helper()
	for _, n := range []int{math.MinInt, -1 << 32, least - 1, least, (least + most) / 2, most, most + 1, 1<<32 + least, math.MaxInt - 1, math.MaxInt} {
		checks(t, what+" "+strconv.Itoa(n), unit(n), n >= least && n <= most)
	}
}

func TestValidUnits(t *testing.T) {
	checks(t, "the smallest", smallest(), true)
	checks(t, "the rich one", rich(), true)
	for _, temps := range []int{0, 1, 16} {
		checks(t, "a bare one", bare(temps), true)
	}
	// Empty lists, nil or not.
	u := smallest()
	u.Enter, u.Maps[0], u.Code[0].L = []api.Ins{}, srcs(), srcs()
	checks(t, "empty lists", u, true)
	u = smallest()
	u.Code, u.Starts[1] = nil, 0
	checks(t, "no code", u, true)
	u.Code = []api.Ins{}
	checks(t, "no code", u, true)
}

func TestZeroUnit(t *testing.T) {
	checks(t, "the zero unit", api.Unit{}, false)
	checks(t, "with a method", api.Unit{Method: 2}, false)
	checks(t, "empty lists", api.Unit{Method: 2, Enter: []api.Ins{}, Code: []api.Ins{}, Starts: []int{}, Maps: [][]api.Src{}}, false)
}

func TestMethod(t *testing.T) {
	for _, w := range []api.Word{0, 1, 2, 3, 1 << 63, math.MaxUint64 - 1, math.MaxUint64} {
		checks(t, "method", edited(func(u *api.Unit) { u.Method = w }), w != 0)
	}
}

func TestNumbersOfUnit(t *testing.T) {
	bounds(t, "Args with 16 temporaries", 0, 4, func(n int) api.Unit {
		u := bare(16)
		u.Args = n
		return u
	})
	for temps := range 6 {
		bounds(t, "Args with few temporaries", 0, min(temps, 4), func(n int) api.Unit {
			u := bare(temps)
			u.Args = n
			return u
		})
	}
	for args := range 5 {
		bounds(t, "Temps", args, 16, func(n int) api.Unit {
			u := bare(n)
			u.Args = args
			return u
		})
	}
	// Without a place, there need not be any, nor sites without a send.
	bounds(t, "Regs without registers", 0, 4096, func(n int) api.Unit {
		u := bare(0)
		u.Regs = n
		return u
	})
	bounds(t, "Spills without cells", 0, 4096, func(n int) api.Unit {
		u := bare(0)
		u.Spills = n
		return u
	})
	bounds(t, "Sites without sends", 0, 128, func(n int) api.Unit {
		u := bare(0)
		u.Sites = n
		return u
	})
	// The rich one has the register 2, the cell 1 and the site 2.
	bounds(t, "Regs", 3, 4096, func(n int) api.Unit { return edited(func(u *api.Unit) { u.Regs = n }) })
	bounds(t, "Spills", 2, 4096, func(n int) api.Unit { return edited(func(u *api.Unit) { u.Spills = n }) })
	bounds(t, "Sites", 3, 128, func(n int) api.Unit { return edited(func(u *api.Unit) { u.Sites = n }) })
}

func TestLengthOfStarts(t *testing.T) {
	for parts, valid := range map[int]bool{1: true, 2: true, 64: true, 127: true, 128: true, 129: false, 130: false, 1000: false} {
		checks(t, strconv.Itoa(parts)+" parts", long(parts), valid)
	}
	for _, starts := range [][]int{nil, {}, {0}, {1}} {
		for _, maps := range [][][]api.Src{nil, {}, {nil}, {nil, nil}} {
			u := bare(0)
			u.Starts, u.Maps = starts, maps
			checks(t, "few starts", u, false)
			u.Code = nil
			checks(t, "few starts, no code", u, false)
		}
	}
}

func TestLengthOfMaps(t *testing.T) {
	for _, parts := range []int{1, 2, 3, 128} {
		for _, maps := range []int{0, parts - 1, parts + 1, parts + 2, 129, 1000} {
			u := long(parts)
			u.Maps = make([][]api.Src, maps)
			checks(t, strconv.Itoa(parts)+" parts with "+strconv.Itoa(maps)+" maps", u, false)
		}
	}
}

func TestStarts(t *testing.T) {
	for _, c := range []struct {
		starts []int
		valid  bool
	}{
		{[]int{0, 0, 4, 9, 9, 11}, true},
		{[]int{0, 0, 0, 0, 0, 11}, true},
		{[]int{0, 11, 11, 11, 11, 11}, true},
		{[]int{0, 1, 2, 3, 4, 11}, true},
		{[]int{0, 7, 7, 8, 11, 11}, true},
		// Those that fall.
		{[]int{0, 1, 0, 9, 9, 11}, false},
		{[]int{0, 5, 4, 9, 9, 11}, false},
		{[]int{0, 0, 4, 9, 12, 11}, false},
		{[]int{0, 0, 4, 9, math.MaxInt, 11}, false},
		{[]int{0, -1, 4, 9, 9, 11}, false},
		{[]int{0, math.MinInt, 4, 9, 9, 11}, false},
		{[]int{0, 0, 0, 0, -1, 11}, false},
		{[]int{0, 9, 9, 4, 9, 11}, false},
		// The first one.
		{[]int{1, 1, 4, 9, 9, 11}, false},
		{[]int{-1, 0, 4, 9, 9, 11}, false},
		{[]int{math.MinInt, 0, 4, 9, 9, 11}, false},
		{[]int{11, 11, 11, 11, 11, 11}, false},
		// The last one.
		{[]int{0, 0, 4, 9, 9, 10}, false},
		{[]int{0, 0, 4, 9, 9, 12}, false},
		{[]int{0, 0, 4, 9, 9, 9}, false},
		{[]int{0, 0, 0, 0, 0, 0}, false},
		{[]int{0, 0, 4, 9, 9, 0}, false},
		{[]int{0, 0, 4, 9, 9, math.MaxInt}, false},
		{[]int{0, 0, 4, 9, 9, 1<<32 + 11}, false},
	} {
		checks(t, "starts", edited(func(u *api.Unit) { u.Starts = c.starts }), c.valid)
	}
}

func TestLengthOfMap(t *testing.T) {
	for temps := range 17 {
		for _, n := range []int{0, 1, 2, temps - 1, temps, temps + 1, temps + 15, temps + 16, temps + 17, temps + 18, 100} {
			if n < 0 {
				continue
			}
			for k := range 5 {
				u := edited(func(u *api.Unit) {
					u.Args, u.Temps, u.Maps = 0, temps, make([][]api.Src, 5)
					u.Maps[k] = slices.Repeat(srcs(self()), n)
				})
				checks(t, strconv.Itoa(temps)+" temporaries, map of "+strconv.Itoa(n), u, n == 0 || n >= temps && n <= temps+16)
			}
		}
	}
}

// lists are all lists of sources of a unit, those of Enter first, the maps last.
func lists(u api.Unit) [][]api.Src {
	var all [][]api.Src
	for _, i := range slices.Concat(u.Enter, u.Code) {
		all = append(all, i.L)
	}
	return append(all, u.Maps...)
}

// results are all instructions of a unit that have one.
func results(u api.Unit) []*api.Ins {
	var all []*api.Ins
	for _, l := range [][]api.Ins{u.Enter, u.Code} {
		for k := range l {
			if slices.Contains([]int{1, 2, 3, 7}, l[k].Op) {
				all = append(all, &l[k])
			}
		}
	}
	return all
}

func TestSources(t *testing.T) {
	good := srcs(reg(0), reg(2), cell(0), cell(1), lit(1), lit(2), lit(1<<63), lit(math.MaxUint64), self())
	places := 0
	for k, l := range lists(rich()) {
		for n := range l {
			for _, s := range good {
				u := rich()
				lists(u)[k][n] = s
				checks(t, "a good source", u, true)
			}
			for _, s := range badSources() {
				u := rich()
				lists(u)[k][n] = s
				checks(t, "list "+strconv.Itoa(k)+", source "+strconv.Itoa(s.Kind)+" "+strconv.Itoa(s.N), u, false)
			}
			places++
		}
	}
	if places < 30 {
		t.Errorf("only %d sources", places)
	}
}

// The numbers of places are at their bounds with each number of registers and cells.
func TestNumbersOfPlaces(t *testing.T) {
	for _, most := range []int{0, 1, 2, 7, 8, 4095, 4096} {
		for _, n := range []int{most - 1, most, 0, 4095, 4096} {
			for _, c := range []struct {
				s            api.Src
				regs, spills int
			}{{reg(n), most, 4096}, {cell(n), 4096, most}} {
				for what, put := range map[string]func(u *api.Unit){
					"map":     func(u *api.Unit) { u.Maps[0] = srcs(c.s) },
					"operand": func(u *api.Unit) { u.Code[0].L[0] = c.s },
					"enter":   func(u *api.Unit) { u.Enter = []api.Ins{gives(1, 0, c.s, 0, self())} },
					"result":  func(u *api.Unit) { u.Code[0] = gives(3, 0, c.s, 0) },
				} {
					u := bare(0)
					u.Regs, u.Spills = c.regs, c.spills
					put(&u)
					checks(t, what+" "+strconv.Itoa(n)+" of "+strconv.Itoa(most), u, n >= 0 && n < most)
				}
			}
		}
	}
}

func TestResults(t *testing.T) {
	for k := range results(rich()) {
		for _, d := range srcs(reg(0), reg(1), reg(2), cell(0), cell(1)) {
			u := rich()
			results(u)[k].D = d
			checks(t, "a good result", u, true)
		}
		for _, d := range append(badSources(), self(), lit(num(1)), lit(ref(1)), lit(0)) {
			u := rich()
			results(u)[k].D = d
			checks(t, "result "+strconv.Itoa(k), u, false)
		}
	}
	// What has no result has the zero source there, even if there is no register.
	for _, d := range append(badSources(), reg(0), reg(1), cell(0), self(), lit(num(1))) {
		for k, i := range rich().Code {
			if !slices.Contains([]int{1, 2, 3, 7}, i.Op) {
				u := rich()
				u.Code[k].D = d
				checks(t, "what has no result, "+strconv.Itoa(k), u, d == api.Src{})
			}
		}
	}
	checks(t, "no registers", bare(0), true)
}

// one is a valid unit whose code is one instruction of an operation with so many operands.
func one(op, operands int) api.Unit {
	u := bare(0)
	u.Regs, u.Sites = 1, 1
	u.Code[0] = does(op, 0, map[int]api.Word{6: num(0), 7: ref(1)}[op], slices.Repeat(srcs(self()), operands)...)
	return u
}

func TestNumbersOfOperands(t *testing.T) {
	for _, r := range table() {
		for n := range 12 {
			checks(t, "operation "+strconv.Itoa(r.op)+" with "+strconv.Itoa(n), one(r.op, n), n >= r.least && n <= r.most)
		}
	}
}

func TestNoOperations(t *testing.T) {
	for _, op := range noOperations() {
		for n := range 7 {
			checks(t, "operation "+strconv.Itoa(op), one(op, n), false)
			u := one(1, 1)
			u.Enter = one(op, n).Code
			checks(t, "Enter with operation "+strconv.Itoa(op), u, false)
		}
		for k := range rich().Code {
			checks(t, "operation "+strconv.Itoa(op), edited(func(u *api.Unit) { u.Code[k].Op = op }), false)
		}
	}
}

func TestN(t *testing.T) {
	for op, most := range map[int]int{1: 0, 2: 7, 3: 4095, 4: 4095, 8: 0, 9: 0} {
		bounds(t, "N of operation "+strconv.Itoa(op), 0, most, func(n int) api.Unit {
			u := one(op, table()[op-1].least)
			u.Code[0].N = n
			return u
		})
	}
	for _, op := range []int{5, 6} {
		for _, parts := range []int{1, 2, 5, 128} {
			bounds(t, "N of operation "+strconv.Itoa(op), 0, parts-1, func(n int) api.Unit {
				u := long(parts)
				u.Code = one(op, op-5).Code
				u.Code[0].N = n
				return u
			})
		}
	}
	for _, sites := range []int{0, 1, 2, 127, 128} {
		bounds(t, "N of a send", 0, sites-1, func(n int) api.Unit {
			u := one(7, 1)
			u.Sites, u.Code[0].N = sites, n
			return u
		})
	}
}

func TestW(t *testing.T) {
	words := []api.Word{0, num(0), num(1), 2, num(2), 4, num(-1), num(1 << 32), 1 << 32, 1<<32 + 1, 1 << 63, 1<<63 + 1, 1<<63 + 3, math.MaxUint64 - 1}
	for _, r := range table() {
		for _, w := range words {
			u := one(r.op, r.least)
			u.Code[0].W = w
			want := w == 0
			switch r.op {
			case 6:
				want = w == 1 || w == 3
			case 7:
				want = w != 0
			}
			checks(t, "operation "+strconv.Itoa(r.op)+" with a word", u, want)
		}
	}
}

// sends is a unit with a send for each of these sites, in so many parts, and something else between them.
func sends(sites int, l ...int) api.Unit {
	u := bare(0)
	u.Regs, u.Sites, u.Code = 1, sites, nil
	for k, n := range l {
		u.Code = append(u.Code, gives(7, n, reg(0), ref(1+k), self()), does(4, n, 0, self()))
	}
	u.Starts[1] = len(u.Code)
	return u
}

func TestSites(t *testing.T) {
	var all []int
	for n := range 128 {
		all = append(all, 127-n)
	}
	for _, c := range []struct {
		u     api.Unit
		valid bool
	}{
		{sends(1, 0), true},
		{sends(1, 0, 0), false},
		{sends(2, 0, 1), true},
		{sends(2, 1, 0), true},
		{sends(2, 1, 1), false},
		{sends(2, 0, 0), false},
		{sends(2, 0, 1, 0), false},
		{sends(128, 127, 3, 0), true},
		{sends(128, 127, 3, 127), false},
		{sends(128, all...), true},
		{sends(127, all...), false},
		{sends(128, append(slices.Clone(all), 64)...), false},
		{sends(128, append(slices.Clone(all[1:]), 64)...), false},
		{sends(128), true},
	} {
		checks(t, "sends", c.u, c.valid)
	}
	// The same selector, result and operands may be had by two.
	u := sends(2, 0, 1)
	u.Code[2].W = u.Code[0].W
	checks(t, "one selector", u, true)
	// Two in different parts.
	checks(t, "in two parts", edited(func(u *api.Unit) { u.Code[9] = u.Code[7] }), false)
}

func TestEnter(t *testing.T) {
	for _, i := range rich().Code {
		checks(t, "Enter with operation "+strconv.Itoa(i.Op), edited(func(u *api.Unit) { u.Enter[2] = i; u.Code = nil; u.Starts = make([]int, 6) }), i.Op == 1)
	}
	for what, change := range map[string]func(i *api.Ins){
		"N":            func(i *api.Ins) { i.N = 1 },
		"N below 0":    func(i *api.Ins) { i.N = -1 },
		"W":            func(i *api.Ins) { i.W = num(0) },
		"no operand":   func(i *api.Ins) { i.L = nil },
		"two operands": func(i *api.Ins) { i.L = append(i.L, self()) },
		"no place":     func(i *api.Ins) { i.D = self() },
		"a word":       func(i *api.Ins) { i.D = lit(num(1)) },
		"register":     func(i *api.Ins) { i.D = reg(3) },
		"cell":         func(i *api.Ins) { i.D = cell(2) },
	} {
		for k := range rich().Enter {
			checks(t, "Enter: "+what, edited(func(u *api.Unit) { change(&u.Enter[k]) }), false)
		}
	}
	// There is no bound to their number, and they have no part in Starts.
	checks(t, "many moves", edited(func(u *api.Unit) { u.Enter = slices.Repeat(u.Enter, 100) }), true)
	checks(t, "no moves", edited(func(u *api.Unit) { u.Enter = nil }), true)
	// Two may go to one place.
	checks(t, "one place", edited(func(u *api.Unit) { u.Enter[1].D = u.Enter[0].D }), true)
}
