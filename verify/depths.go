package verify

import (
	"math/bits"

	"tappet/api"
	"tappet/code"
)

// unreached is told for an instruction that no path reaches.
const unreached = -1

// point is an instruction with the depth with which a path reaches it.
type point struct{ at, depth int }

// paths are all of a method's.
type paths struct {
	m       api.Method
	reached []uint32 // for each instruction, a bit for each depth with which it is reached: more than one is a violation, but the paths continue with each
	pending []point  // those that are reached, but not left yet
}

// depths is how deep the stack is ahead of each instruction.
func depths(m api.Method) ([]int, error) {
	if code.Check(m) != api.OK {
		return nil, errMethod
	}
	for at, i := range m.Code {
		if err := checkOperands(m, i); err != nil {
			return nil, violation{at, err}
		}
	}
	// The least instruction with a violation need not be the one that a path meets first, so that all paths are followed ahead of judging.
	p := &paths{m: m, reached: make([]uint32, len(m.Code))}
	p.follow()
	list := make([]int, len(m.Code))
	for at := range list {
		depth, err := p.depth(at)
		if err != nil {
			return nil, violation{at, err}
		}
		list[at] = depth
	}
	return list, nil
}

// follow lets each path run to its end, or to a point where another one was.
func (p *paths) follow() {
	p.reach(0, 0)
	for len(p.pending) > 0 {
		last := len(p.pending) - 1
		next := p.pending[last]
		p.pending = p.pending[:last]
		p.leave(next)
	}
}

// reach notes a point, unless it was reached before. A depth is at most Stack, and so has a bit.
func (p *paths) reach(at, depth int) {
	bit := uint32(1) << depth
	if p.reached[at]&bit == 0 {
		p.reached[at] |= bit
		p.pending = append(p.pending, point{at, depth})
	}
}

// leave continues from a point to the successors of its instruction, as far as there are such.
func (p *paths) leave(from point) {
	depth, err := p.after(from)
	if err != nil {
		return
	}
	i := p.m.Code[from.at]
	if jumps(i) {
		p.reach(i.A, depth)
	}
	if goesOn(i) && !p.isLast(from.at) {
		p.reach(from.at+1, depth)
	}
}

// after is how deep the stack is behind the instruction of a point.
func (p *paths) after(from point) (int, error) {
	pops, pushes := effect(p.m.Code[from.at])
	if from.depth < pops {
		return 0, errFew
	}
	depth := from.depth - pops + pushes
	if depth > p.m.Stack {
		return 0, errMany
	}
	return depth, nil
}

func (p *paths) isLast(at int) bool { return at == len(p.m.Code)-1 }

// depth is the one with which all paths reach an instruction.
func (p *paths) depth(at int) (int, error) {
	found := p.reached[at]
	if found == 0 {
		return unreached, nil
	}
	if bits.OnesCount32(found) > 1 {
		return 0, errDepths
	}
	depth := bits.TrailingZeros32(found)
	if _, err := p.after(point{at, depth}); err != nil {
		return 0, err
	}
	if goesOn(p.m.Code[at]) && p.isLast(at) {
		return 0, errBeyond
	}
	return depth, nil
}
