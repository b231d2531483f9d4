package verify

import (
	"errors"
	"strconv"

	"tappet/api"
)

// What is wrong with a method as a whole; no instruction is to blame.
var (
	errMethod = errors.New("no method")
	errPrim   = errors.New("a block with a primitive")
)

// What is wrong with an instruction.
var (
	errOperand = errors.New("an operand out of its range")
	errFew     = errors.New("too few words on the stack")
	errMany    = errors.New("too many words on the stack")
	errDepths  = errors.New("reached with different depths")
	errBeyond  = errors.New("the code ends behind it")
	errField   = errors.New("no such field")
	errInside  = errors.New("only outside of a block")
	errOutside = errors.New("only in a block")
	errOuter   = errors.New("no such outer temporary")
	errNested  = errors.New("a block nested too deep")
)

// violation is an instruction that may not be: where it is, and what is wrong with it.
type violation struct {
	at  int
	why error
}

// Error tells both.
func (v violation) Error() string {
	return "verify: instruction " + strconv.Itoa(v.at) + ": " + v.why.Error()
}

// Unwrap is what is wrong: for an instruction that pushes a block, that may be a violation inside of it.
func (v violation) Unwrap() error { return v.why }

// noPosition is told where no instruction is to blame.
const noPosition = -1

// verdict is what callers are told of an error, or of none.
func verdict(err error) (int, api.Errno) {
	if err == nil {
		return noPosition, api.OK
	}
	// The outermost violation is found first, and so the position is the asked method's, not one in a block of it.
	var v violation
	if errors.As(err, &v) {
		return v.at, api.ErrMethod
	}
	return noPosition, api.ErrMethod
}
