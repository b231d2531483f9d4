package heap

import (
	"errors"
	"strconv"

	"tappet/api"
)

// fault is a call that can't be answered: what is wrong with it, and the number that callers are told.
type fault struct {
	what   string
	number api.Errno
}

// Error tells both.
func (f fault) Error() string { return "heap: " + f.what + ": " + f.number.Error() }

// Unwrap is the number.
func (f fault) Unwrap() error { return f.number }

// invalid is the fault of an argument, or of a number in one.
func invalid(what string, n int) error {
	return fault{what + " " + strconv.Itoa(n), api.ErrArg}
}

// invalidWord is the fault of a word.
func invalidWord(what string, w api.Word) error {
	return fault{what + " " + strconv.FormatUint(uint64(w), 10), api.ErrArg}
}

// full is the fault of something of which there may be no more.
func full(what string, most int) error {
	return fault{"more " + what + " than " + strconv.Itoa(most), api.ErrMemory}
}

// errno is the number that an error wraps, OK if there is no error.
func errno(err error) api.Errno {
	if err == nil {
		return api.OK
	}
	var number api.Errno
	if errors.As(err, &number) {
		return number
	}
	return api.ErrArg
}
