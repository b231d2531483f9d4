package interp_test

import (
	"fmt"
	"math"
	"slices"
	"testing"

	"tappet/api"
	"tappet/heap"
	"tappet/interp"
)

// P10.5

// delivers gives an answer to a sender, and holds what comes of it against what is wanted.
func delivers(t *testing.T, what string, h *heap.Heap, s interp.State, sender, v api.Word, want interp.State, after picture) {
	t.Helper()
	given := slices.Clone(s.Out)
	got := interp.Deliver(h, s, sender, v)
	if !same(got, want) {
		t.Errorf("%s: Deliver(%d, %d) = %v, want %v", what, sender, v, got, want)
	}
	looks(t, what, h, after)
	if len(got.Out) > 0 {
		got.Out[0]++
	}
	if !slices.Equal(s.Out, given) {
		t.Errorf("%s: the list that was given is %v, was %v", what, s.Out, given)
	}
}

// refuses: the state stops with ErrResume, and nothing is changed.
func refuses(t *testing.T, what string, h *heap.Heap, s interp.State, sender, v api.Word) {
	t.Helper()
	want := s
	want.E = api.ErrResume
	delivers(t, what, h, s, sender, v, want, pictureOf(h))
}

func TestDeliverToNil(t *testing.T) {
	w := newWorld(t, 2048)
	for _, v := range append(words(0, num(1), num(least)), w.h.Objects()...) {
		s := interp.State{Active: w.context, Out: []int{4, -5}}
		want := s
		want.Done, want.Result = true, v
		delivers(t, "Nil", w.h, s, w.s[0], v, want, pictureOf(w.h))
	}
	// Nil is no sender even if it is a context.
	w.h.Store(w.root, 0, w.context)
	s := interp.State{Active: w.list}
	delivers(t, "a context as Nil", w.h, s, w.context, num(5), interp.State{Active: w.list, Done: true, Result: num(5)}, pictureOf(w.h))
}

func TestDeliverToContext(t *testing.T) {
	w := newWorld(t, 4096)
	method := w.method(t, deep())
	for _, v := range words(num(greatest), w.list, w.s[0], 0) {
		x := w.at(t, method, w.instance, 0)
		// It has eleven fields, and so can hold five words.
		for held := range 5 {
			after := pictureOf(w.h).with(x, 2, num(held+1)).with(x, 6+held, v)
			delivers(t, "a context", w.h, interp.State{Active: w.context, Out: []int{7}}, x, v, interp.State{Active: x, Out: []int{7}}, after)
		}
		refuses(t, "a full context", w.h, interp.State{Active: w.context}, x, v)
		refuses(t, "a full context that is active", w.h, interp.State{Active: x}, x, v)
	}
	x := w.at(t, method, w.instance, 0, num(1))
	delivers(t, "the active one", w.h, interp.State{Active: x}, x, num(3), interp.State{Active: x}, pictureOf(w.h).with(x, 2, num(2)).with(x, 7, num(3)))
}

// The context need not be resumable, nor have all that one has to have.
func TestDeliverToAnyContext(t *testing.T) {
	w := newWorld(t, 2048)
	x := put(t, w.h, w.s[4], num(1), w.s[0], num(1), w.s[0], num(5), w.list, num(9), num(9))
	delivers(t, "no method, and no pc", w.h, interp.State{}, x, num(3), interp.State{Active: x}, pictureOf(w.h).with(x, 2, num(2)).with(x, 7, num(3)))
	for size := range 10 {
		for held := -2; held < 6; held++ {
			l := slices.Repeat(words(num(held)), size)
			y := put(t, w.h, w.s[4], l...)
			what := fmt.Sprintf("%d fields, %d of them in use", size, held)
			if held < 0 || size < 3 || 6+held >= size {
				refuses(t, what, w.h, interp.State{Active: x, Out: []int{1}}, y, num(3))
			} else {
				delivers(t, what, w.h, interp.State{}, y, num(3), interp.State{Active: y}, pictureOf(w.h).with(y, 2, num(held+1)).with(y, 6+held, num(3)))
			}
		}
	}
}

func TestDeliverToNoContext(t *testing.T) {
	w := newWorld(t, 2048)
	below := put(t, w.h, w.s[7], w.s[4], w.s[0], num(6), num(1))
	put(t, w.h, below, slices.Repeat(words(num(0)), 12)...)
	for _, x := range append(noObjects(w.h), w.h.Objects()...) {
		if x != w.context && x != w.s[0] {
			refuses(t, "no context", w.h, interp.State{Active: w.context, Out: []int{1, 2}}, x, num(3))
		}
	}
	x := w.at(t, w.number, w.instance, 0)
	for _, v := range words(0, w.s[0], x, num(-1), num(1), num(2), num(greatest), num(least), num(greatest-5), num(1<<32)) {
		store(t, w.h, x, 2, v)
		refuses(t, "a number of words that can't be", w.h, interp.State{Active: w.context}, x, num(3))
	}
	store(t, w.h, x, 2, num(0))
	for _, v := range invalid(w.h) {
		refuses(t, "a word that is not valid", w.h, interp.State{Active: w.context}, x, v)
	}
}

func TestDeliverWithoutSpecials(t *testing.T) {
	for what, h := range noHeaps() {
		for _, x := range words(0, num(0), 2, math.MaxUint64) {
			refuses(t, what, h, interp.State{Active: x, Out: []int{3}}, x, x)
		}
	}
	// Without a Root, Nil is the word 0, and that is no sender that ends it all.
	h := made(t, 64)
	x := put(t, h, 0, slices.Repeat(words(num(1)), 8)...)
	refuses(t, "the word 0", h, interp.State{}, 0, num(1))
	delivers(t, "a context without a class", h, interp.State{}, x, num(4), interp.State{Active: x}, pictureOf(h).with(x, 2, num(2)).with(x, 7, num(4)))
	refuses(t, "a full context", h, interp.State{}, x, num(4))
}
