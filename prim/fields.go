package prim

import (
	"tappet/api"
	"tappet/class"
	"tappet/word"
)

// row is some fields of the receiver that lie one after the other.
type row struct {
	from  int // where they begin
	count int // below 0 where not even the named fields are there
}

// all are the receiver's fields; false if it has none that may be asked for.
func (c call) all() (row, bool) {
	size, e := c.h.Size(c.receiver)
	// Where the Root has no such special, an object without a class counts as of it, as in package class.
	if e != api.OK || c.isSpecial(class.Of(c.h, c.receiver), api.ClassClass, api.ClassMethod) {
		return row{}, false
	}
	return row{0, size}, true
}

// indexed are those behind the named ones; false if its class does not permit them.
func (c call) indexed() (row, bool) {
	r, ok := c.all()
	of := class.Of(c.h, c.receiver)
	if !ok || !c.permitsMore(of) {
		return row{}, false
	}
	named := class.Fields(c.h, of)
	return row{named, r.count - named}, true
}

// place is which field of the receiver the first argument means.
func (c call) place(r row) (int, bool) {
	k, e := word.Int(c.args[0])
	if e != api.OK || k < 1 || k > r.count {
		return 0, false
	}
	return r.from + k - 1, true
}

// fetch is the field of a row that the argument means.
func (c call) fetch(r row, ok bool) (api.Word, api.Errno) {
	k, found := c.place(r)
	if !ok || !found {
		return 0, api.ErrFail
	}
	// The field is there, so the heap's answer is no error.
	return c.h.Fetch(c.receiver, k)
}

// store lets that field hold the second argument.
func (c call) store(r row, ok bool) (api.Word, api.Errno) {
	k, found := c.place(r)
	if !ok || !found || c.h.Store(c.receiver, k, c.args[1]) != api.OK {
		return 0, api.ErrFail
	}
	return c.args[1], api.OK
}

// countIndexed is how many indexed fields the receiver has.
func (c call) countIndexed() (api.Word, api.Errno) {
	r, ok := c.indexed()
	if !ok {
		return 0, api.ErrFail
	}
	return word.FromInt(r.count)
}

// fetchIndexed is an indexed field.
func (c call) fetchIndexed() (api.Word, api.Errno) { return c.fetch(c.indexed()) }

// storeIndexed lets an indexed field hold something.
func (c call) storeIndexed() (api.Word, api.Errno) { return c.store(c.indexed()) }

// fetchAny is a field, a named one or not.
func (c call) fetchAny() (api.Word, api.Errno) { return c.fetch(c.all()) }

// storeAny lets a field hold something, a named one or not.
func (c call) storeAny() (api.Word, api.Errno) { return c.store(c.all()) }
