package code

import (
	"errors"
	"strconv"
)

// errField is what all invalid fields have in common; which number callers are told of one depends on what they asked for.
var errField = errors.New("code: an invalid field")

// fault is an invalid field: which one, and what it holds.
type fault struct {
	field string
	holds int
}

// Error tells both.
func (f fault) Error() string { return "code: " + f.field + " " + strconv.Itoa(f.holds) }

// Unwrap is what it has in common with the others.
func (f fault) Unwrap() error { return errField }

// bound is a field's number with the least and the greatest that it may be.
type bound struct {
	field          string
	n, least, most int
}

// within is the fault of the first number that is beyond its bounds.
func within(bounds ...bound) error {
	for _, b := range bounds {
		if b.n < b.least || b.n > b.most {
			return fault{b.field, b.n}
		}
	}
	return nil
}
