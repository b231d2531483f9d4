package ir_test

import (
	"reflect"
	"testing"

	"tappet/api"
	"tappet/ir"
)

// P11.3

// units are some, valid or not.
func units() []api.Unit {
	return []api.Unit{
		{}, smallest(), rich(), bare(0), bare(16), long(128), sends(3, 2, 1),
		{Method: 1, Args: -1, Temps: -2, Regs: -3, Spills: -4, Sites: -5, Starts: []int{5, -7}, Maps: [][]api.Src{nil, {}, {{Kind: 9, N: -1, W: 3}}},
			Code: []api.Ins{{Op: -1, N: -2, D: api.Src{Kind: 8, N: 8, W: 8}, L: []api.Src{{Kind: -5}}, W: 9}, {}}, Enter: []api.Ins{{Op: 99}, {L: srcs()}}},
		{Enter: []api.Ins{}, Code: []api.Ins{}, Starts: []int{}, Maps: [][]api.Src{}},
	}
}

func TestCopyIsTheSame(t *testing.T) {
	for k, u := range units() {
		if c := ir.Copy(u); !same(c, u) || !same(u, units()[k]) {
			t.Errorf("Copy(%v) = %v", u, c)
		}
	}
}

// Whatever is changed in the one is not in the other.
func TestCopyIsNewMemory(t *testing.T) {
	for k, want := range units() {
		u := units()[k]
		c := ir.Copy(u)
		spoil(&c)
		if !same(u, want) {
			t.Errorf("a copy was changed: the unit is %v, was %v", u, want)
		}
		c = ir.Copy(u)
		spoil(&u)
		if !same(c, want) {
			t.Errorf("a unit was changed: the copy is %v, was %v", c, want)
		}
	}
}

// Lists that share memory in a unit share none in a copy of it, and none is continued in another.
func TestListsOfCopyShareNothing(t *testing.T) {
	all := srcs(reg(0), self(), cell(0), reg(1), lit(num(5)), reg(2))
	moves := []api.Ins{gives(1, 0, reg(0), 0, self()), gives(1, 0, reg(1), 0, self())}
	moves[0].L, moves[1].L = all[:1], all[1:2]
	u := api.Unit{Method: 2, Enter: moves, Code: moves, Maps: [][]api.Src{all[:2], all[:2], all[2:4]}}
	want := api.Unit{Method: 2,
		Enter: []api.Ins{gives(1, 0, reg(0), 0, reg(0)), gives(1, 0, reg(1), 0, self())},
		Code:  []api.Ins{gives(1, 0, reg(0), 0, reg(0)), gives(1, 0, reg(1), 0, self())},
		Maps:  [][]api.Src{srcs(reg(0), self()), srcs(reg(0), self()), srcs(cell(0), reg(1))},
	}
	for k := range lists(u) {
		c, expected := ir.Copy(u), plain(want)
		_ = append(lists(c)[k], cell(99), cell(99))
		if !same(c, want) {
			t.Errorf("list %d was continued: %v, want %v", k, c, want)
		}
		lists(c)[k][0], lists(expected)[k][0] = cell(98), cell(98)
		if !same(c, expected) {
			t.Errorf("list %d was changed: %v, want %v", k, c, expected)
		}
	}
	c := ir.Copy(u)
	c.Enter[0].N = 5
	if c.Code[0].N != 0 || u.Enter[0].N != 0 {
		t.Error("Enter and Code of the copy share instructions")
	}
}

// same: are two units the same? A list without elements may be nil or not.
func same(a, b api.Unit) bool {
	return reflect.DeepEqual(plain(a), plain(b))
}

// plain is a unit in new memory, in which no list is nil.
func plain(u api.Unit) api.Unit {
	c := u
	c.Enter, c.Code, c.Starts, c.Maps = plainCode(u.Enter), plainCode(u.Code), append([]int{}, u.Starts...), [][]api.Src{}
	for _, m := range u.Maps {
		c.Maps = append(c.Maps, append([]api.Src{}, m...))
	}
	return c
}

func plainCode(l []api.Ins) []api.Ins {
	c := []api.Ins{}
	for _, i := range l {
		i.L = append([]api.Src{}, i.L...)
		c = append(c, i)
	}
	return c
}

// spoil changes all that a unit leads to.
func spoil(u *api.Unit) {
	for _, l := range [][]api.Ins{u.Enter, u.Code} {
		for k := range l {
			for n := range l[k].L {
				l[k].L[n] = api.Src{Kind: 77, N: 77, W: 77}
			}
			l[k] = api.Ins{Op: 77, N: 77, D: api.Src{Kind: 77}, L: srcs(reg(77)), W: 77}
		}
	}
	for k := range u.Starts {
		u.Starts[k] = 77
	}
	for k, m := range u.Maps {
		for n := range m {
			m[n] = api.Src{Kind: 77}
		}
		u.Maps[k] = srcs(reg(77))
	}
}
