package verify

import (
	"tappet/api"
	"tappet/code"
	"tappet/heap"
)

// maxOuters is how many methods and blocks there may be around a block that is pushed; it is what ends the descent into blocks that push one another.
const maxOuters = 2

// body is a method or a block whose depths are right, with what its instructions may refer to.
type body struct {
	api.Method
	h        *heap.Heap
	fields   int               // how many the receiver has
	outers   []int             // temporaries of what is around a block, the innermost first; a method has none
	accepted [api.MaxLits]bool // which literals are blocks that may run: they aren't checked again for each instruction that pushes them
}

// check is an error if the method, or the block, of an object may not run.
func check(h *heap.Heap, w api.Word, fields int, outers []int) error {
	m, e := code.Read(h, w)
	if e != api.OK {
		return errMethod
	}
	b := &body{Method: m, h: h, fields: fields, outers: outers}
	if b.isBlock() && m.Prim != 0 {
		return errPrim
	}
	if _, err := depths(m); err != nil {
		return err
	}
	for at, i := range m.Code {
		if err := b.checkInstr(i); err != nil {
			return violation{at, err}
		}
	}
	return nil
}

func (b *body) isBlock() bool { return len(b.outers) > 0 }

// checkInstr is an error if an instruction has no place here, or refers to something that isn't there.
func (b *body) checkInstr(i api.Instr) error {
	switch i.Op {
	case api.OpPushField, api.OpPopField:
		if i.A >= b.fields {
			return errField
		}
	case api.OpReturn, api.OpReturnSelf:
		if b.isBlock() {
			return errInside
		}
	case api.OpPushOuter, api.OpPopOuter:
		if b.isBlock() && !b.hasOuter(i.A, i.B) {
			return errOuter
		}
		fallthrough // these, too, have no place outside of a block
	case api.OpBlockReturn, api.OpFarReturn:
		if !b.isBlock() {
			return errOutside
		}
	case api.OpPushBlock:
		return b.checkBlock(i.A)
	}
	return nil
}

// hasOuter: is there temporary k of what is n out?
func (b *body) hasOuter(n, k int) bool {
	return n >= 1 && n <= len(b.outers) && k < b.outers[n-1]
}

// checkBlock is an error if literal k is no block that may run in here.
func (b *body) checkBlock(k int) error {
	if len(b.outers) >= maxOuters {
		return errNested
	}
	if b.accepted[k] {
		return nil
	}
	inner := append([]int{b.Temps}, b.outers...)
	if err := check(b.h, b.Lits[k], b.fields, inner); err != nil {
		return err
	}
	b.accepted[k] = true
	return nil
}
