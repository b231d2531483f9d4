package live_test

import (
	"math"
	"testing"

	"tappet/api"
	"tappet/live"
)

// P13.2

// meets holds Meet against an answer, in both orders, whatever the registers.
func meets(t *testing.T, a, b api.Interval, want bool) {
	t.Helper()
	for _, v := range [][2]int{{0, 0}, {0, 1}, {4095, 3}, {math.MinInt, math.MaxInt}} {
		a.V, b.V = v[0], v[1]
		if m := live.Meet(a, b); m != want {
			t.Errorf("Meet(%v, %v) = %v", a, b, m)
		}
		if m := live.Meet(b, a); m != want {
			t.Errorf("Meet(%v, %v) = %v", b, a, m)
		}
	}
}

func TestMeet(t *testing.T) {
	for _, c := range []struct {
		a, b api.Interval
		want bool
	}{
		{in(0, 1, 3), in(0, 3, 5), true},
		{in(0, 1, 2), in(0, 3, 5), false},
		{in(0, 1, 4), in(0, 3, 5), true},
		{in(0, 1, 9), in(0, 3, 5), true},
		{in(0, 3, 9), in(0, 3, 5), true},
		{in(0, 1, 5), in(0, 3, 5), true},
		{in(0, 3, 5), in(0, 3, 5), true},
		{in(0, 4, 4), in(0, 3, 5), true},
		{in(0, 3, 3), in(0, 3, 5), true},
		{in(0, 5, 5), in(0, 3, 5), true},
		{in(0, 2, 2), in(0, 3, 5), false},
		{in(0, 6, 6), in(0, 3, 5), false},
		{in(0, 4, 4), in(0, 4, 4), true},
		{in(0, 4, 4), in(0, 5, 5), false},
		{in(0, 0, 0), in(0, 0, 0), true},
		// Empty ones: inside another one, around it, the same.
		{in(0, 3, 2), in(0, 0, 9), false},
		{in(0, 9, 0), in(0, 4, 5), false},
		{in(0, 4, 3), in(0, 4, 3), false},
		{in(0, 9, 0), in(0, 8, 1), false},
		{in(0, 1, 0), in(0, 0, 1), false},
	} {
		meets(t, c.a, c.b, c.want)
	}
}

func TestMeetAtTheEnds(t *testing.T) {
	least, most := math.MinInt, math.MaxInt
	for _, c := range []struct {
		a, b api.Interval
		want bool
	}{
		{in(0, least, most), in(0, least, most), true},
		{in(0, least, most), in(0, 0, 0), true},
		{in(0, least, most), in(0, least, least), true},
		{in(0, least, most), in(0, most, most), true},
		{in(0, least, 0), in(0, 0, most), true},
		{in(0, least, -1), in(0, 0, most), false},
		{in(0, least, least), in(0, most, most), false},
		{in(0, most, most), in(0, most, most), true},
		{in(0, least, least), in(0, least, least), true},
		{in(0, least, least), in(0, least+1, most), false},
		{in(0, most, most), in(0, least, most-1), false},
		{in(0, most, least), in(0, least, most), false},
		{in(0, most, least), in(0, most, least), false},
		{in(0, most, most-1), in(0, least, most), false},
		{in(0, least+1, least), in(0, least, most), false},
		{in(0, most, 0), in(0, 0, most), false},
		{in(0, 0, least), in(0, least, 0), false},
	} {
		meets(t, c.a, c.b, c.want)
	}
}

// All intervals of a few numbers are held against the numbers that lie in both.
func TestAllSmallIntervals(t *testing.T) {
	least, most := -2, 3
	for from := least; from <= most; from++ {
		for to := least; to <= most; to++ {
			for from2 := least; from2 <= most; from2++ {
				for to2 := least; to2 <= most; to2++ {
					both := 0
					for k := least; k <= most; k++ {
						if from <= k && k <= to && from2 <= k && k <= to2 {
							both++
						}
					}
					meets(t, in(0, from, to), in(0, from2, to2), both > 0)
				}
			}
		}
	}
}
