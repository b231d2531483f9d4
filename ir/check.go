package ir

import (
	"tappet/api"
	"tappet/word"
)

const (
	maxPlaces  = 4096 // registers, or cells
	arithKinds = 8
)

// within: is a number neither less than the least nor greater than the greatest?
func within(n, least, most int) bool { return n >= least && n <= most }

// areNumbers: may the numbers of a unit be?
func areNumbers(u api.Unit) bool {
	return u.Method != 0 &&
		within(u.Args, 0, api.MaxArgs) &&
		within(u.Temps, u.Args, api.MaxTemps) &&
		within(u.Regs, 0, maxPlaces) &&
		within(u.Spills, 0, maxPlaces) &&
		within(u.Sites, 0, api.MaxCode)
}

// areStarts: do the starts of a unit divide its code, and is there a map for each of the parts?
func areStarts(u api.Unit) bool {
	parts := len(u.Starts) - 1
	if !within(parts, 1, api.MaxCode) || len(u.Maps) != parts {
		return false
	}
	if u.Starts[0] != 0 || u.Starts[parts] != len(u.Code) {
		return false
	}
	for k := range parts {
		if u.Starts[k] > u.Starts[k+1] {
			return false
		}
	}
	return true
}

// areMaps: may the maps of a unit be, whose numbers may?
func areMaps(u api.Unit) bool {
	r := rangesOf(u)
	for _, m := range u.Maps {
		if len(m) > 0 && !within(len(m), u.Temps, u.Temps+api.MaxStack) {
			return false
		}
		if !r.areSources(m) {
			return false
		}
	}
	return true
}

// isCode: may the instructions of a unit be, whose numbers may?
func isCode(u api.Unit) bool {
	r := rangesOf(u)
	for _, i := range u.Enter {
		if i.Op != api.InsMove || !r.isInstruction(i) {
			return false
		}
	}
	taken := make([]bool, u.Sites)
	for _, i := range u.Code {
		if !r.isInstruction(i) {
			return false
		}
		if i.Op != api.InsSend {
			continue
		}
		if taken[i.N] {
			return false
		}
		taken[i.N] = true
	}
	return true
}

// ranges is how many there are in a unit of what sources and instructions name by a number.
type ranges struct{ regs, spills, sites, maps int }

func rangesOf(u api.Unit) ranges {
	return ranges{regs: u.Regs, spills: u.Spills, sites: u.Sites, maps: len(u.Maps)}
}

// isInstruction: may an instruction be, as far as it doesn't hang on the others?
func (r ranges) isInstruction(i api.Ins) bool {
	least, most := Takes(i.Op)
	return within(len(i.L), least, most) &&
		r.areSources(i.L) &&
		r.isResult(i) &&
		within(i.N, 0, r.greatest(i.Op)) &&
		isWord(i)
}

// isResult: is there a place for the result of an instruction if it has one, and none otherwise?
func (r ranges) isResult(i api.Ins) bool {
	if !Leaves(i.Op) {
		return i.D == api.Src{}
	}
	return Place(i.D) && r.isSource(i.D)
}

func (r ranges) areSources(l []api.Src) bool {
	for _, s := range l {
		if !r.isSource(s) {
			return false
		}
	}
	return true
}

func (r ranges) isSource(s api.Src) bool {
	switch s.Kind {
	case api.SrcReg:
		return Place(s) && s.N < r.regs
	case api.SrcSpill:
		return Place(s) && s.N < r.spills
	case api.SrcLit:
		return s.N == 0 && s.W != 0
	case api.SrcSelf:
		return s.N == 0 && s.W == 0
	}
	return false
}

// greatest is what N of an instruction of an operation may be at most.
func (r ranges) greatest(op int) int {
	switch op {
	case api.InsArith:
		return arithKinds - 1
	case api.InsLoad, api.InsStore:
		return api.MaxOperand
	case api.InsJump, api.InsBranch:
		return r.maps - 1
	case api.InsSend:
		return r.sites - 1
	}
	return 0
}

// isWord: may an instruction have its word?
func isWord(i api.Ins) bool {
	switch i.Op {
	case api.InsBranch:
		n, e := word.Int(i.W)
		return e == api.OK && within(n, 0, 1)
	case api.InsSend:
		return i.W != 0
	}
	return i.W == 0
}
