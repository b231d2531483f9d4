package gen

import "tappet/api"

// leadersOf says of each instruction whether it is a leader. What is reached and goes on to the next instruction has one: else there were no depths.
func leadersOf(m api.Method, depths []int) []bool {
	leads := make([]bool, len(m.Code))
	leads[0] = true
	for k, i := range m.Code {
		if !isReached(depths[k]) {
			continue
		}
		switch i.Op {
		case api.OpJumpTrue, api.OpJumpFalse:
			leads[k], leads[k+1] = true, true
			fallthrough
		case api.OpJump:
			leads[i.A] = true
		case api.OpPushContext, api.OpPushBlock, api.OpSuper:
			leads[k+1] = true
		}
	}
	return leads
}
