package class

import (
	"errors"

	"tappet/api"
)

// Why a heap is not runnable: its Root, and the specials in it.
var (
	errRoot    = errors.New("class: the Root is no array of the specials")
	errSpecial = errors.New("class: a special that is no object, or another one too")
	errShape   = errors.New("class: a special class with other fields than it has to have")
	errActive  = errors.New("class: what is active is no context")
	errToRoot  = errors.New("class: an object leads to the Root")
)

// Why it is not: an object.
var (
	errOf      = errors.New("class: the class of an object is none")
	errSize    = errors.New("class: an object with other fields than its class says")
	errZero    = errors.New("class: a field is the word 0")
	errNoClass = errors.New("class: an object of the class of classes is none")
	errNoCode  = errors.New("class: an object of the class of methods is none")
)

// Why it is not: the superclasses of a class, and its dictionary.
var (
	errRing     = errors.New("class: superclasses in a ring")
	errFewer    = errors.New("class: a class with fewer fields than its superclass")
	errAbove    = errors.New("class: a superclass of classes or methods with fields")
	errShared   = errors.New("class: something else leads to a dictionary")
	errSelector = errors.New("class: a selector that is no object, or is there before")
	errMethod   = errors.New("class: a method that may not run in its class")
	errHole     = errors.New("class: a hole that is not empty")
)

// unfit is what callers are told of a heap that is not runnable, with the reason.
func unfit(reason error) error { return errors.Join(api.ErrImage, reason) }
