package verify

import "tappet/api"

const arithKinds = 8

// below is an error if an operand is not less than a bound.
func below(n, bound int) error {
	if n >= bound {
		return errOperand
	}
	return nil
}

// checkOperands is an error if A or B of an instruction of a method may not be. That neither is below 0 was checked by code.
func checkOperands(m api.Method, i api.Instr) error {
	switch i.Op {
	case api.OpPushTemp, api.OpPopTemp:
		return below(i.A, m.Temps)
	case api.OpSend, api.OpSuper:
		if i.B > api.MaxArgs {
			return errOperand
		}
		fallthrough // the selector is a literal
	case api.OpPushLit, api.OpPushBlock:
		return below(i.A, len(m.Lits))
	case api.OpArith:
		return below(i.A, arithKinds)
	case api.OpJump, api.OpJumpTrue, api.OpJumpFalse:
		return below(i.A, len(m.Code))
	}
	return nil
}

// effect is how many words an instruction pops, and how many it pushes then; a case for each row of the document's table. What ends a path pushes none.
func effect(i api.Instr) (pops, pushes int) {
	switch i.Op {
	case api.OpPushTemp, api.OpPushLit, api.OpPushField, api.OpPushSelf, api.OpPushContext, api.OpPushInt, api.OpPushBlock, api.OpPushOuter:
		return 0, 1
	case api.OpPopTemp, api.OpPopField, api.OpDrop, api.OpPopOuter:
		fallthrough
	case api.OpJumpTrue, api.OpJumpFalse:
		fallthrough
	case api.OpReturn, api.OpBlockReturn, api.OpFarReturn:
		return 1, 0
	case api.OpDup:
		return 1, 2
	case api.OpSend, api.OpSuper:
		return i.B + 1, 1
	case api.OpArith:
		return 2, 1
	}
	return 0, 0
}

// jumps: is instruction A a successor?
func jumps(i api.Instr) bool {
	return i.Op == api.OpJump || i.Op == api.OpJumpTrue || i.Op == api.OpJumpFalse
}

// goesOn: is the next instruction a successor?
func goesOn(i api.Instr) bool {
	switch i.Op {
	case api.OpReturn, api.OpReturnSelf, api.OpBlockReturn, api.OpFarReturn, api.OpJump:
		return false
	}
	return true
}
