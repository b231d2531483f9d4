package verify_test

import (
	"math"
	"slices"
	"testing"

	"tappet/api"
	"tappet/code"
	"tappet/heap"
	"tappet/verify"
)

// made is a new heap.
func made(t *testing.T) *heap.Heap {
	t.Helper()
	h, e := heap.New(65536)
	if e != api.OK {
		t.Fatalf("New = error %d", e)
	}
	return h
}

// put is the object of a method.
func put(t *testing.T, h *heap.Heap, m api.Method) api.Word {
	t.Helper()
	w, e := code.Write(h, 0, m)
	if e != api.OK {
		t.Fatalf("Write(%v) = error %d", m, e)
	}
	return w
}

// body is the object of a method or block that has so many temporaries and these literals.
func body(t *testing.T, h *heap.Heap, temps int, lits []api.Word, list ...api.Instr) api.Word {
	t.Helper()
	return put(t, h, api.Method{Temps: temps, Stack: 4, Lits: lits, Code: list})
}

// allowed stands where a position would, for a method that may run.
const allowed = -2

// checked: is this what Check answers?
func checked(t *testing.T, h *heap.Heap, w api.Word, fields int, outers []int, want int) {
	t.Helper()
	number := api.ErrMethod
	if want == allowed {
		want, number = -1, api.OK
	}
	if at, e := verify.Check(h, w, fields, outers); at != want || e != number {
		m, _ := code.Read(h, w)
		t.Errorf("Check(%v, %d, %v) = %d, %d, want %d, %d", m, fields, outers, at, e, want, number)
	}
}

// P5.2

func TestCheckOfMethods(t *testing.T) {
	h := made(t)
	w := body(t, h, 1, nil, in(8, 2053), in(8, 1), in(13), in(17))
	for _, fields := range []int{math.MinInt, -1, 0, 1, math.MaxInt} {
		checked(t, h, w, fields, nil, allowed)
		checked(t, h, w, fields, []int{}, allowed)
	}
	for prim := range 256 {
		m := api.Method{Prim: prim, Code: []api.Instr{in(18)}}
		checked(t, h, put(t, h, m), 0, nil, allowed)
	}
}

func TestCheckOfBlocks(t *testing.T) {
	h := made(t)
	w := body(t, h, 1, nil, in(8, 2053), in(15, 4), in(6), in(22), in(7), in(23))
	for _, outers := range [][]int{{0}, {1}, {-1}, {0, 0}, {16, 1}, {-5, -6}, {math.MinInt, math.MaxInt}, {1, 2, 3}, {0, 0, 0}, make([]int, 300)} {
		checked(t, h, w, 0, outers, allowed)
	}
}

func TestCheckOfOtherWords(t *testing.T) {
	h := made(t)
	w := body(t, h, 0, nil, in(18))
	no, _ := h.Alloc(0, 6, num(0))
	small, _ := h.Alloc(0, 5, num(0))
	for _, v := range []api.Word{0, 1, num(3), num(-1), w + 1, w + 2, no, small, ref(h.Used()), 1 << 40, 1 << 63, math.MaxUint64, math.MaxUint64 - 1} {
		for _, outers := range [][]int{nil, {}, {1}, {1, 2}, {1, 2, 3}} {
			checked(t, h, v, 3, outers, -1)
		}
	}
	for _, g := range []*heap.Heap{nil, {}} {
		for _, v := range []api.Word{0, w, num(3), math.MaxUint64 - 1} {
			for _, outers := range [][]int{nil, {1}} {
				checked(t, g, v, 3, outers, -1)
			}
		}
	}
	// Numbers that code refuses, stored into the object.
	for k, bad := range []int{5, -1, 17, 256, 33} {
		v := body(t, h, 0, nil, in(18))
		h.Store(v, k, num(bad))
		checked(t, h, v, 0, nil, -1)
	}
	v := body(t, h, 0, nil, in(18))
	h.Store(v, 5, num(24))
	checked(t, h, v, 0, nil, -1)
}

func TestBlockWithAPrimitive(t *testing.T) {
	h := made(t)
	for _, prim := range []int{1, 2, 20, 255} {
		// Its Prim comes ahead of what is wrong with its instructions.
		for _, list := range [][]api.Instr{{in(6), in(22)}, {in(10)}, {in(1, 9)}, {in(18)}} {
			w := put(t, h, api.Method{Stack: 1, Prim: prim, Code: list})
			checked(t, h, w, 0, []int{1}, -1)
			checked(t, h, w, 0, []int{0, 0}, -1)
			checked(t, h, w, 0, []int{0, 0, 0}, -1)
		}
		w := put(t, h, api.Method{Stack: 1, Prim: prim, Code: []api.Instr{in(6), in(17)}})
		checked(t, h, w, 0, nil, allowed)
	}
}

func TestDepthsComeFirst(t *testing.T) {
	h := made(t)
	// Instruction 0 has no field, but 2 a wrong operand, or 3 too few words.
	checked(t, h, body(t, h, 0, nil, in(4, 0), in(10), in(1, 0), in(18)), 0, nil, 2)
	checked(t, h, body(t, h, 0, nil, in(4, 0), in(10), in(6), in(13), in(17)), 0, nil, 3)
	checked(t, h, body(t, h, 0, nil, in(4, 0), in(10), in(6)), 0, nil, 2)
	checked(t, h, body(t, h, 0, nil, in(4, 0), in(10), in(18)), 0, nil, 0)
	checked(t, h, body(t, h, 0, nil, in(20, 1, 0), in(19, 0), in(18)), 0, []int{1}, 1)
	checked(t, h, body(t, h, 0, []api.Word{num(1)}, in(19, 0), in(13), in(17)), 0, nil, 1)
	checked(t, h, body(t, h, 0, []api.Word{num(1)}, in(19, 0), in(17)), 0, nil, 0)
}

func TestFields(t *testing.T) {
	h := made(t)
	for _, a := range []int{0, 1, 2, 63, 64, 4095} {
		push := body(t, h, 0, nil, in(4, a), in(17))
		pop := body(t, h, 0, nil, in(6), in(5, a), in(18))
		inPush := body(t, h, 0, nil, in(4, a), in(22))
		inPop := body(t, h, 0, nil, in(6), in(5, a), in(6), in(23))
		for _, fields := range []int{math.MinInt, -4096, -1, 0, 1, 2, 3, 63, 64, 65, 4095, 4096, math.MaxInt} {
			at0, at1 := 0, 1
			if a < fields {
				at0, at1 = allowed, allowed
			}
			checked(t, h, push, fields, nil, at0)
			checked(t, h, pop, fields, nil, at1)
			checked(t, h, inPush, fields, []int{0}, at0)
			checked(t, h, inPop, fields, []int{0, 0}, at1)
			// In a block that is pushed, the fields are the same receiver's.
			checked(t, h, body(t, h, 0, []api.Word{inPush, inPop}, in(19, 0), in(17)), fields, nil, at0)
		}
	}
}

func TestReturns(t *testing.T) {
	h := made(t)
	some := [][]int{{0}, {1}, {1, 1}, {1, 1, 1}}
	for _, op := range []int{17, 18} {
		w := body(t, h, 0, nil, in(6), in(op))
		checked(t, h, w, 0, nil, allowed)
		for _, outers := range some {
			checked(t, h, w, 0, outers, 1)
		}
	}
	for _, op := range []int{22, 23} {
		w := body(t, h, 0, nil, in(6), in(op))
		checked(t, h, w, 0, nil, 1)
		for _, outers := range some {
			checked(t, h, w, 0, outers, allowed)
		}
	}
}

func TestOuters(t *testing.T) {
	h := made(t)
	for _, outers := range [][]int{nil, {}, {0}, {1}, {3}, {-1}, {math.MinInt}, {0, 2}, {2, 0}, {-1, 1}, {1, -1}, {16, 3}, {1, 2, 3}, {3, 0, 1}, {0, 0, math.MaxInt}} {
		for a := range 6 {
			for b := range 18 {
				at0, at1 := 0, 1
				if a >= 1 && a <= len(outers) && b < outers[a-1] {
					at0, at1 = allowed, allowed
				}
				end := 22
				if len(outers) == 0 {
					end = 17
				}
				checked(t, h, body(t, h, 5, nil, in(20, a, b), in(end)), 9, outers, at0)
				checked(t, h, body(t, h, 5, nil, in(6), in(21, a, b), in(6), in(end)), 9, outers, at1)
			}
		}
		h = made(t)
	}
	// The greatest operands.
	checked(t, h, body(t, h, 0, nil, in(20, 4095, 0), in(22)), 0, []int{1, 1, 1}, 0)
	checked(t, h, body(t, h, 0, nil, in(20, 1, 4095), in(22)), 0, []int{4095}, 0)
	checked(t, h, body(t, h, 0, nil, in(20, 1, 4095), in(22)), 0, []int{4096}, allowed)
	checked(t, h, body(t, h, 0, nil, in(20, 4095, 0), in(22)), 0, slices.Repeat([]int{1}, 4095), allowed)
}

func TestUnreachedInstructionsAreChecked(t *testing.T) {
	h := made(t)
	for _, i := range []api.Instr{in(4, 2), in(5, 2), in(19, 0), in(20, 1, 0), in(21, 1, 0), in(22), in(23)} {
		checked(t, h, body(t, h, 1, []api.Word{num(1)}, in(18), in(6), i), 2, nil, 2)
	}
	for _, i := range []api.Instr{in(4, 2), in(5, 2), in(19, 0), in(20, 2, 0), in(21, 1, 3), in(17), in(18)} {
		checked(t, h, body(t, h, 1, []api.Word{num(1)}, in(6), in(22), in(7), i), 2, []int{3}, 3)
	}
}

func TestFirstInstructionIsTold(t *testing.T) {
	h := made(t)
	checked(t, h, body(t, h, 1, []api.Word{num(1)}, in(4, 0), in(10), in(19, 0), in(4, 7), in(22)), 1, nil, 2)
	checked(t, h, body(t, h, 1, []api.Word{num(1)}, in(4, 0), in(4, 7), in(19, 0), in(22)), 1, nil, 1)
	checked(t, h, body(t, h, 1, nil, in(4, 0), in(10), in(20, 1, 0), in(22)), 1, nil, 2)
	checked(t, h, body(t, h, 1, nil, in(6), in(22), in(18), in(4, 1)), 1, []int{1}, 2)
}

// Blocks

func TestPushedBlocks(t *testing.T) {
	h := made(t)
	right := body(t, h, 1, nil, in(20, 1, 1), in(22))
	for temps := range 5 {
		want := 1
		if temps > 1 {
			want = allowed
		}
		checked(t, h, body(t, h, temps, []api.Word{num(1), right}, in(6), in(19, 1), in(17)), 0, nil, want)
	}
	// In a block, A 1 is its own temporary, and A 2 that of what is around it.
	mine, outer, beyond := body(t, h, 0, nil, in(20, 1, 1), in(22)), body(t, h, 0, nil, in(20, 2, 2), in(22)), body(t, h, 0, nil, in(20, 3, 0), in(22))
	for temps := range 5 {
		for around := range 5 {
			for _, c := range []struct {
				w  api.Word
				ok bool
			}{{mine, temps > 1}, {outer, around > 2}, {beyond, false}} {
				want := 0
				if c.ok {
					want = allowed
				}
				w := body(t, h, temps, []api.Word{c.w}, in(19, 0), in(23))
				checked(t, h, w, 0, []int{around}, want)
				checked(t, h, body(t, h, around, []api.Word{w}, in(19, 0), in(17)), 0, nil, want)
			}
		}
	}
}

func TestLiteralsThatAreNoBlocks(t *testing.T) {
	h := made(t)
	no, _ := h.Alloc(0, 6, num(0))
	for _, v := range []api.Word{
		0, num(0), num(7), no,
		body(t, h, 0, nil, in(18)),                                        // a method
		body(t, h, 0, nil, in(6), in(17)),                                 // a method
		put(t, h, api.Method{Stack: 1, Prim: 1, Code: list(in(6), 22)}),   // with a primitive
		body(t, h, 0, nil, in(6), in(1, 0), in(22)),                       // a wrong operand
		body(t, h, 0, nil, in(22)),                                        // too few words
		put(t, h, api.Method{Code: list(in(6), 22)}),                      // too many
		body(t, h, 0, nil, in(6)),                                         // no end
		body(t, h, 0, nil, in(6), in(10), in(6), in(10), in(4, 2), in(2)), // a wrong operand, far behind
		body(t, h, 0, nil, in(4, 2), in(22)),                              // no such field
		body(t, h, 0, nil, in(20, 2, 0), in(22)),                          // nothing is two out
		body(t, h, 0, []api.Word{num(1)}, in(19, 0), in(22)),              // pushes no block itself
	} {
		checked(t, h, body(t, h, 3, []api.Word{num(1), v}, in(6), in(10), in(19, 1), in(17)), 2, nil, 2)
		checked(t, h, body(t, h, 3, []api.Word{num(1), v}, in(18), in(19, 1)), 2, nil, 1)
	}
	// A literal that is no block does no harm where it is not pushed as one.
	checked(t, h, body(t, h, 0, []api.Word{no, num(1)}, in(3, 0), in(11, 1, 0), in(17)), 0, nil, allowed)
}

// list are an instruction and one without operands.
func list(i api.Instr, op int) []api.Instr { return []api.Instr{i, in(op)} }

func TestBlocksAreAcceptedOneByOne(t *testing.T) {
	h := made(t)
	right, bad := body(t, h, 0, nil, in(6), in(22)), body(t, h, 0, nil, in(6), in(17))
	push := func(k int) []api.Instr { return list(in(19, k), 10) }
	for _, c := range []struct {
		order []int
		want  int
	}{{[]int{0, 0, 0}, allowed}, {[]int{0, 2, 0, 2}, allowed}, {[]int{1}, 0}, {[]int{0, 1}, 2}, {[]int{0, 0, 2, 1, 0}, 6}, {[]int{2, 3, 1}, 2}} {
		var rows []api.Instr
		for _, k := range c.order {
			rows = append(rows, push(k)...)
		}
		checked(t, h, body(t, h, 0, []api.Word{right, bad, right, num(1)}, append(rows, in(18))...), 0, nil, c.want)
	}
}

func TestPositionInABlockIsNotTold(t *testing.T) {
	h := made(t)
	deep := body(t, h, 0, nil, in(6), in(10), in(6), in(10), in(13), in(6), in(22))
	block := body(t, h, 0, []api.Word{deep}, in(6), in(10), in(19, 0), in(22))
	w := body(t, h, 0, []api.Word{block}, in(6), in(19, 0), in(17))
	checked(t, h, deep, 0, []int{0}, 4)
	checked(t, h, block, 0, []int{0}, 2)
	checked(t, h, w, 0, nil, 1)
}

func TestNesting(t *testing.T) {
	h := made(t)
	// Each pushes the one ahead of it.
	blocks := []api.Word{body(t, h, 1, nil, in(6), in(22))}
	for k := range 5 {
		blocks = append(blocks, body(t, h, 1, []api.Word{blocks[k]}, in(6), in(10), in(19, 0), in(22)))
	}
	for around := range 4 {
		for k, w := range blocks {
			// How many are around the innermost of them.
			depth := around + k
			outers := slices.Repeat([]int{1}, around)
			switch {
			case around == 0 && k == 0:
				checked(t, h, w, 0, outers, 1)
			case around == 0 && depth > 2:
				checked(t, h, w, 0, outers, 2)
			case around == 0:
				// It is no method: its end is a block's.
				checked(t, h, w, 0, outers, 3)
			case k == 0 || depth <= 2:
				checked(t, h, w, 0, outers, allowed)
			default:
				checked(t, h, w, 0, outers, 2)
			}
		}
	}
	for k, w := range blocks {
		want := allowed
		if k >= 2 {
			want = 1
		}
		checked(t, h, body(t, h, 1, []api.Word{w}, in(6), in(19, 0), in(17)), 0, nil, want)
	}
}

func TestMethodsThatPushThemselves(t *testing.T) {
	h := made(t)
	// The literal is the object itself.
	for _, op := range []int{17, 22, 23} {
		w := body(t, h, 1, []api.Word{num(1)}, in(6), in(19, 0), in(op))
		h.Store(w, 5, w)
		for _, outers := range [][]int{nil, {1}, {1, 1}, {1, 1, 1}} {
			checked(t, h, w, 0, outers, 1)
		}
	}
	// Two blocks whose literals are each other.
	a := body(t, h, 1, []api.Word{num(1)}, in(19, 0), in(22))
	b := body(t, h, 1, []api.Word{a}, in(6), in(19, 0), in(22))
	h.Store(a, 5, b)
	for _, outers := range [][]int{nil, {1}, {1, 1}, {1, 1, 1}} {
		checked(t, h, a, 0, outers, 0)
		checked(t, h, b, 0, outers, 1)
	}
	// Itself as another literal is nothing special.
	w := body(t, h, 1, []api.Word{num(1)}, in(3, 0), in(17))
	h.Store(w, 5, w)
	checked(t, h, w, 0, nil, allowed)
}

func TestManyBlocksOfManyBlocks(t *testing.T) {
	h := made(t)
	// 63 instructions push 32 blocks, each of which has 63 that push 32 blocks.
	pushing := func(end int, lits []api.Word) api.Word {
		var rows []api.Instr
		for k := range 63 {
			rows = append(rows, in(19, k%32), in(10))
		}
		return body(t, h, 16, lits, append(rows, in(6), in(end))...)
	}
	small := make([]api.Word, 32)
	for k := range small {
		small[k] = body(t, h, 16, nil, in(20, 2, k%16), in(22))
	}
	great := make([]api.Word, 32)
	for k := range great {
		great[k] = pushing(23, small)
	}
	w := pushing(17, great)
	checked(t, h, w, 0, nil, allowed)
	h.Store(small[31], 1, num(-1))
	checked(t, h, w, 0, nil, 0)
	checked(t, h, great[0], 0, []int{16}, 62)
}

// P1

func TestCheckLeavesWhatItIsGiven(t *testing.T) {
	h := made(t)
	inner := body(t, h, 1, nil, in(20, 2, 2), in(22))
	w := body(t, h, 1, []api.Word{inner}, in(19, 0), in(22))
	row := []int{3, 77, 78, 79}
	outers := row[:1]
	used, dump := h.Used(), h.Dump()
	checked(t, h, w, 0, outers, allowed)
	checked(t, h, w, 0, row[:2], 0)
	checked(t, h, w, 0, nil, 0)
	if !slices.Equal(row, []int{3, 77, 78, 79}) {
		t.Errorf("the outers are %v", row)
	}
	same := slices.EqualFunc(dump, h.Dump(), func(a, b heap.Object) bool {
		return a.Class == b.Class && a.Hash == b.Hash && slices.Equal(a.Fields, b.Fields)
	})
	if h.Used() != used || h.Hashes() != 0 || h.Root() != 0 || !same {
		t.Errorf("the heap has changed")
	}
}
