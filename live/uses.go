package live

import (
	"maps"
	"slices"

	"tappet/api"
	"tappet/ir"
)

// uses is the interval of each register, by its number, as far as it is known.
type uses map[int]api.Interval

// note takes down that an instruction of the bytecode uses a source. They come in order, so that the greatest yet is this one.
func (f uses) note(s api.Src, at int) {
	if s.Kind != api.SrcReg {
		return
	}
	i, known := f[s.N]
	if !known {
		i = api.Interval{V: s.N, From: at}
	}
	i.To = at
	f[s.N] = i
}

func (f uses) noteAll(l []api.Src, at int) {
	for _, s := range l {
		f.note(s, at)
	}
}

// noteInstruction takes down what an instruction of the code uses.
func (f uses) noteInstruction(i api.Ins, at int) {
	f.noteAll(ir.Reads(i), at)
	if d, ok := ir.Writes(i); ok {
		f.note(d, at)
	}
}

// list is the intervals in the order of their registers.
func (f uses) list() []api.Interval {
	l := make([]api.Interval, 0, len(f))
	for _, v := range slices.Sorted(maps.Keys(f)) {
		l = append(l, f[v])
	}
	return l
}
