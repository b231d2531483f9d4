package scan_test

import (
	"math"
	"testing"

	"tappet/api"
)

// P14.1: what is refused.

func TestWrongNumberOfRegisters(t *testing.T) {
	for _, regs := range []int{0, 9, -1, 10, -8, 4096, math.MinInt, math.MaxInt, 1 << 32, 1<<32 + 1} {
		refuses(t, "nil", regs)
		refuses(t, "an empty list", regs, ins()...)
		refuses(t, "one interval", regs, in(0, 0, 5))
		refuses(t, "three intervals", regs, in(0, 0, 5), in(1, 2, 3), in(2, 4, 6))
		refuses(t, "one V twice", regs, in(0, 0, 5), in(0, 6, 7))
		refuses(t, "From below 0", regs, in(0, -1, 5))
		refuses(t, "To less than From", regs, in(0, 1, 0))
	}
}

// refused holds a list against ErrArg for all numbers of registers.
func refused(t *testing.T, what string, l ...api.Interval) {
	t.Helper()
	for regs := -1; regs <= 10; regs++ {
		refuses(t, what, regs, l...)
	}
}

func TestOneRegisterTwice(t *testing.T) {
	for _, v := range []int{0, 1, -1, 4095, math.MinInt, math.MaxInt} {
		refused(t, "beside one another", in(v, 0, 5), in(v, 6, 7))
		refused(t, "the same", in(v, 0, 5), in(v, 0, 5))
		refused(t, "within one another", in(v, 0, 5), in(v, 2, 3))
		refused(t, "the later one first", in(v, 6, 7), in(v, 0, 5))
		refused(t, "one apart", in(v, 0, 1), in(7, 2, 3), in(v, 4, 5))
		refused(t, "three times", in(v, 0, 1), in(v, 2, 3), in(v, 4, 5))
		refused(t, "the last two", in(7, 0, 1), in(8, 2, 3), in(v, 4, 5), in(v, 6, 7))
		refused(t, "the first two", in(v, 4, 5), in(v, 6, 7), in(7, 0, 1), in(8, 2, 3))
	}
	l := spans(1000, 0, 127)
	l[999].V = 0
	refused(t, "far apart", l...)
	l[999].V = 500
	refused(t, "half apart", l...)
	l[999].V = 998
	refused(t, "at the end of many", l...)
}

func TestWrongIntervals(t *testing.T) {
	least, most := math.MinInt, math.MaxInt
	for _, bad := range []api.Interval{
		// From below 0
		in(3, -1, -1), in(3, -1, 0), in(3, -1, 5), in(3, -5, -2), in(3, least, least), in(3, least, 0), in(3, least, most), in(3, -1, most),
		// To less than From
		in(3, 1, 0), in(3, 5, 4), in(3, 5, 0), in(3, 0, -1), in(3, 127, 3), in(3, most, most-1), in(3, most, 0), in(3, 0, least), in(3, most, least), in(3, 5, -5),
		// both
		in(3, -1, -2), in(3, -5, least), in(3, least+1, least),
	} {
		refused(t, "alone", bad)
		refused(t, "the first", bad, in(0, 0, 5), in(1, 2, 3))
		refused(t, "in between", in(0, 0, 5), bad, in(1, 2, 3))
		refused(t, "the last", in(0, 0, 5), in(1, 2, 3), bad)
		refused(t, "twice", bad, in(0, 0, 5), bad)
		refused(t, "with a V that another one has", in(0, 0, 5), bad, in(3, 2, 3))
		refused(t, "behind a V twice", in(0, 0, 5), in(0, 0, 5), bad)
		refused(t, "of the last V", in(0, 0, 5), api.Interval{V: most, From: bad.From, To: bad.To})
		refused(t, "of the first V", in(0, 0, 5), api.Interval{V: least, From: bad.From, To: bad.To})
	}
	l := spans(1000, 0, 127)
	l[999].From = -1
	refused(t, "behind many", l...)
	l[999].From = 128
	refused(t, "empty, behind many", l...)
}
