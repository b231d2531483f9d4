package ir

import "tappet/api"

// operation is what the instructions of an operation have, whatever the unit.
type operation struct {
	least, most int  // operands
	leaves      bool // a result
}

// operationOf is what belongs to a number; what belongs to none permits no number of operands.
func operationOf(op int) operation {
	table := [...]operation{
		0:             {0, -1, false}, // none has this number
		api.InsMove:   {1, 1, true},
		api.InsArith:  {2, 2, true},
		api.InsLoad:   {0, 0, true},
		api.InsStore:  {1, 1, false},
		api.InsJump:   {0, 0, false},
		api.InsBranch: {1, 1, false},
		api.InsSend:   {1, 1 + api.MaxArgs, true}, // the receiver and its arguments
		api.InsReturn: {1, 1, false},
		api.InsTrap:   {0, 0, false},
	}
	if op < 0 || op >= len(table) {
		op = 0
	}
	return table[op]
}
