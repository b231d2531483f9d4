package image

import (
	"errors"
	"strconv"
)

// What may be wrong with bytes: they end ahead of a number that they announce, or they are not laid out as an image is.
var (
	errTruncated = errors.New("a number is cut off")
	errForm      = errors.New("not the form of an image")
)

// fault is bytes that are no image: how many of them were still to be read, and what is wrong there.
type fault struct {
	rest int
	why  error
}

// Error tells both.
func (f fault) Error() string {
	return "image: " + strconv.Itoa(f.rest) + " bytes ahead of the end: " + f.why.Error()
}

// Unwrap is what is wrong.
func (f fault) Unwrap() error { return f.why }
