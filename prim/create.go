package prim

import (
	"tappet/api"
	"tappet/class"
	"tappet/word"
)

// maxMore is how many fields may be asked for beside the named ones.
const maxMore = 256

// create is a new instance of the receiver.
func (c call) create() (api.Word, api.Errno) { return c.createWith(0) }

// createLarger is one with as many more fields as the argument says.
func (c call) createLarger() (api.Word, api.Errno) {
	n, e := word.Int(c.args[0])
	if e != api.OK || n < 0 || n > maxMore || !c.permitsMore(c.receiver) {
		return 0, api.ErrFail
	}
	return c.createWith(n)
}

// createWith is a new instance with so many more fields.
func (c call) createWith(more int) (api.Word, api.Errno) {
	// An instance of ClassInt would be no integer, and what is in a class or a method is the machine's own.
	if !class.Is(c.h, c.receiver) || c.isSpecial(c.receiver, api.ClassClass, api.ClassMethod, api.ClassInt) {
		return 0, api.ErrFail
	}
	// The words are there and the fields are few, so the only error is that there is no room.
	return c.h.Alloc(c.receiver, class.Fields(c.h, c.receiver)+more, class.Special(c.h, api.Nil))
}
