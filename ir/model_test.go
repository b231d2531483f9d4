package ir_test

import (
	"math"
	"reflect"
	"testing"

	"tappet/api"
	"tappet/ir"
)

// valid: do the chapter's conditions hold, told as plainly as can be?
func valid(u api.Unit) bool {
	ok := u.Method != 0 && u.Args >= 0 && u.Args <= 4 && u.Temps >= u.Args && u.Temps <= 16
	ok = ok && u.Regs >= 0 && u.Regs <= 4096 && u.Spills >= 0 && u.Spills <= 4096 && u.Sites >= 0 && u.Sites <= 128
	ok = ok && len(u.Starts) >= 2 && len(u.Starts) <= 129 && len(u.Maps) == len(u.Starts)-1
	ok = ok && u.Starts[0] == 0 && u.Starts[len(u.Starts)-1] == len(u.Code)
	for k := 1; ok && k < len(u.Starts); k++ {
		ok = u.Starts[k-1] <= u.Starts[k]
	}
	source := func(s api.Src) bool {
		return s == reg(s.N) && s.N >= 0 && s.N < u.Regs || s == cell(s.N) && s.N >= 0 && s.N < u.Spills || s == lit(s.W) && s.W != 0 || s == self()
	}
	for _, m := range u.Maps {
		ok = ok && (len(m) == 0 || len(m) >= u.Temps && len(m) <= u.Temps+16)
	}
	for _, l := range lists(u) {
		for _, s := range l {
			ok = ok && source(s)
		}
	}
	sites := map[int]int{}
	for k, i := range append(append([]api.Ins{}, u.Enter...), u.Code...) {
		if i.Op < 1 || i.Op > 9 || k < len(u.Enter) && i.Op != 1 {
			return false
		}
		r := table()[i.Op-1]
		ok = ok && len(i.L) >= r.least && len(i.L) <= r.most
		if r.leaves {
			ok = ok && source(i.D) && (i.D.Kind == 0 || i.D.Kind == 3)
		} else {
			ok = ok && i.D == api.Src{}
		}
		most := []int{0, 0, 7, 4095, 4095, len(u.Maps) - 1, len(u.Maps) - 1, u.Sites - 1, 0, 0}[i.Op]
		ok = ok && i.N >= 0 && i.N <= most
		switch i.Op {
		case 6:
			ok = ok && (i.W == 1 || i.W == 3)
		case 7:
			ok = ok && i.W != 0
			sites[i.N]++
			ok = ok && sites[i.N] == 1
		default:
			ok = ok && i.W == 0
		}
	}
	return ok
}

// changes are all that can be done to one thing in a value: a number becomes another one, a list loses its last element, repeats it, loses its first or all of them.
func changes(v reflect.Value) []func() {
	var l []func()
	switch v.Kind() {
	case reflect.Int:
		for _, n := range []int64{math.MinInt64, -1, 0, 1, 2, 3, 4, 5, 7, 8, 10, 16, 17, 128, 129, 4095, 4096, 4097, math.MaxInt64} {
			l = append(l, func() { v.SetInt(n) })
		}
		for _, n := range []int64{-1, 1} {
			l = append(l, func() { v.SetInt(v.Int() + n) })
		}
	case reflect.Uint64:
		for _, n := range []uint64{0, 1, 2, 3, 5, 1 << 63, math.MaxUint64} {
			l = append(l, func() { v.SetUint(n) })
		}
	case reflect.Struct:
		for k := range v.NumField() {
			l = append(l, changes(v.Field(k))...)
		}
	case reflect.Slice:
		for k := range v.Len() {
			l = append(l, changes(v.Index(k))...)
		}
		l = append(l, func() { v.SetZero() })
		if n := v.Len(); n > 0 {
			l = append(l, func() { v.SetLen(n - 1) }, func() { v.Set(v.Slice(1, n)) }, func() { v.Set(reflect.Append(v, v.Index(n-1))) })
		}
	}
	return l
}

// P11.2 and P11.4: units that one change makes of a valid one are held against the model, and those that are valid keep what follows from that.
func TestChangedUnits(t *testing.T) {
	for _, base := range []func() api.Unit{smallest, rich, func() api.Unit { return bare(3) }, func() api.Unit { return sends(4, 3, 0, 1) }} {
		u := base()
		count := len(changes(reflect.ValueOf(&u).Elem()))
		good, bad := 0, 0
		for k := range count {
			u := base()
			changes(reflect.ValueOf(&u).Elem())[k]()
			follows(t, u)
			if valid(u) {
				good++
			} else {
				bad++
			}
		}
		if good < 20 || bad < 80 {
			t.Errorf("of %v, %d changed ones are valid, %d are not", base(), good, bad)
		}
	}
}

// follows holds a unit against the model, and against P11.4.
func follows(t *testing.T, u api.Unit) {
	t.Helper()
	was := plain(u)
	want := api.OK
	if !valid(u) {
		want = api.ErrArg
	}
	if e := ir.Check(u); e != want {
		t.Errorf("Check(%v) = error %d, want %d", u, e, want)
	}
	if e := ir.Check(ir.Copy(u)); e != want {
		t.Errorf("Check of a copy of %v = error %d, want %d", u, e, want)
	}
	for _, l := range [][]api.Ins{u.Enter, u.Code} {
		for _, i := range l {
			places := ir.Reads(i)
			if d, ok := ir.Writes(i); ok {
				places = append(places, d)
			}
			for _, s := range places {
				if want == api.OK && (s.N < 0 || s.Kind == 0 && s.N >= u.Regs || s.Kind == 3 && s.N >= u.Spills || !ir.Place(s)) {
					t.Errorf("%v of the valid unit %v names the place %v", i, u, s)
				}
			}
		}
	}
	if !same(u, was) {
		t.Errorf("the unit is %v, was %v", u, was)
	}
}

// P1: nothing panics or goes on for ever, and nothing is changed, whatever several changes at once make of a unit.
func TestOftenChangedUnits(t *testing.T) {
	seed := uint32(1)
	below := func(n int) int {
		seed = seed*1664525 + 1013904223
		return int(seed>>8) % n
	}
	for range 3000 {
		u := []api.Unit{smallest(), rich(), bare(3), sends(4, 3, 0, 1)}[below(4)]
		for range 2 + below(3) {
			l := changes(reflect.ValueOf(&u).Elem())
			l[below(len(l))]()
		}
		follows(t, u)
	}
}
