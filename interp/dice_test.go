package interp_test

import "tappet/api"

// dice are numbers that come in the same order in each run.
type dice uint64

func newDice(seed int) *dice {
	d := dice(seed)
	return &d
}

func (d *dice) below(n int) int {
	*d = *d*6364136223846793005 + 1442695040888963407
	return int(*d>>33) % n
}

// word is one of a list.
func (d *dice) word(l []api.Word) api.Word { return l[d.below(len(l))] }
