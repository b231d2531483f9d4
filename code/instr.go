package code

import (
	"tappet/api"
	"tappet/word"
)

// Where the operands are in an instruction's integer: the operation has the bits below A, and B all those above it.
const (
	shiftA = 6
	shiftB = 18
	maskOp = 1<<shiftA - 1
	maskA  = 1<<(shiftB-shiftA) - 1
)

// checkInstr is an error if an instruction may not be.
func checkInstr(i api.Instr) error {
	return within(
		bound{"operation", i.Op, 1, api.Ops},
		bound{"operand A", i.A, 0, api.MaxOperand},
		bound{"operand B", i.B, 0, api.MaxOperand},
	)
}

// integer is the word of a number that was checked, and so has one.
func integer(n int) api.Word {
	w, _ := word.FromInt(n)
	return w
}

// number is what a field says whose word has to be an integer.
func number(field string, w api.Word) (int, error) {
	n, e := word.Int(w)
	if e != api.OK {
		return 0, fault{field, int(w)}
	}
	return n, nil
}

// packed is the word of an instruction that was checked.
func packed(i api.Instr) api.Word {
	return integer(i.Op | i.A<<shiftA | i.B<<shiftB)
}

// unpacked is the instruction whose word this is.
func unpacked(w api.Word) (api.Instr, error) {
	n, err := number("instruction", w)
	if err != nil {
		return api.Instr{}, err
	}
	// The shift keeps the sign and all bits above, so that an integer below 0, or with more than the three hold, has an invalid B.
	i := api.Instr{Op: n & maskOp, A: n >> shiftA & maskA, B: n >> shiftB}
	if err := checkInstr(i); err != nil {
		return api.Instr{}, err
	}
	return i, nil
}
