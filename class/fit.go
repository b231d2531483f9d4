package class

import (
	"slices"

	"tappet/api"
	"tappet/code"
	"tappet/heap"
)

// inspection is the examination of a heap that has to be runnable.
type inspection struct {
	h       *heap.Heap
	refs    []api.Word       // to all objects
	objects []heap.Object    // the same ones
	led     map[api.Word]int // for each word: how many fields hold it
	walked  map[api.Word]int // for each class that was come to: by which walk along superclasses
	walks   int
	runs    map[use]struct{} // those that were accepted: one method may be in many dictionaries
}

// use is a method in the dictionary of a class whose methods may name so many fields.
type use struct {
	method api.Word
	fields int
}

// inspect is an error with the reason if a heap is not runnable.
func inspect(h *heap.Heap) error {
	x := &inspection{
		h:       h,
		refs:    h.Objects(),
		objects: h.Dump(),
		led:     map[api.Word]int{},
		walked:  map[api.Word]int{},
		runs:    map[use]struct{}{},
	}
	for _, check := range []func() error{x.checkRoot, x.checkObjects, x.checkClasses} {
		if reason := check(); reason != nil {
			return unfit(reason)
		}
	}
	return nil
}

// checkRoot is an error if the Root is not that of a runnable heap.
func (x *inspection) checkRoot() error {
	root := x.h.Root()
	size, _ := x.h.Size(root)
	if size != api.Specials || !isOf(x.h, root, api.ClassArray) {
		return errRoot
	}
	if !x.specialsDiffer() {
		return errSpecial
	}
	if !x.shapesHold() {
		return errShape
	}
	active := Special(x.h, api.Active)
	if active != Special(x.h, api.Nil) && !isOf(x.h, active, api.ClassContext) {
		return errActive
	}
	return nil
}

// specialsDiffer: are all specials but the active context objects, each of them another one?
func (x *inspection) specialsDiffer() bool {
	seen := map[api.Word]struct{}{}
	for k := range api.Active {
		w := Special(x.h, k)
		if _, twice := seen[w]; twice || !x.h.Has(w) {
			return false
		}
		seen[w] = struct{}{}
	}
	return true
}

// shapesHold: do the special classes ask of their instances what the machine relies on?
func (x *inspection) shapesHold() bool {
	shapes := []struct {
		special, fields int
		more            bool
	}{
		{api.ClassInt, 0, false},
		{api.ClassContext, 6, true},
		{api.ClassMethod, 5, true},
		{api.ClassBlock, 3, false},
		{api.ClassClass, 4, false},
		{api.ClassArray, 0, true},
	}
	for _, s := range shapes {
		f, ok := read(x.h, Special(x.h, s.special))
		if !ok || f.fields != s.fields || f.more != s.more {
			return false
		}
	}
	return true
}

// checkObjects is an error if one of the objects may not be; it also counts what their fields lead to.
func (x *inspection) checkObjects() error {
	for k, o := range x.objects {
		if err := x.checkObject(x.refs[k], o); err != nil {
			return err
		}
		for _, w := range o.Fields {
			x.led[w]++
		}
	}
	return nil
}

// checkObject is an error if an object may not be, whatever its fields lead to.
func (x *inspection) checkObject(w api.Word, o heap.Object) error {
	root := x.h.Root()
	if o.Class == root || slices.Contains(o.Fields, root) {
		return errToRoot
	}
	if slices.Contains(o.Fields, 0) {
		return errZero
	}
	f, ok := read(x.h, o.Class)
	if !ok {
		return errOf
	}
	if len(o.Fields) < f.fields || len(o.Fields) > f.fields && !f.more {
		return errSize
	}
	switch o.Class {
	case Special(x.h, api.ClassClass):
		if !Is(x.h, w) {
			return errNoClass
		}
	case Special(x.h, api.ClassMethod):
		if _, e := code.Read(x.h, w); e != api.OK {
			return errNoCode
		}
	}
	return nil
}

// checkClasses is an error if one of the classes may not be; the objects were checked before.
func (x *inspection) checkClasses() error {
	for _, w := range x.refs {
		f, ok := read(x.h, w)
		if !ok {
			continue
		}
		if err := x.checkSupers(w, f); err != nil {
			return err
		}
		if err := x.checkDict(w, f); err != nil {
			return err
		}
	}
	if x.hasFieldsAbove(api.ClassClass) || x.hasFieldsAbove(api.ClassMethod) {
		return errAbove
	}
	return nil
}

// checkSupers is an error if a class is not in order with its superclasses.
func (x *inspection) checkSupers(class api.Word, f form) error {
	if x.leadsToRing(class) {
		return errRing
	}
	if super, ok := read(x.h, f.super); ok && super.fields > f.fields {
		return errFewer
	}
	return nil
}

// leadsToRing: do the superclasses of a class go round in a ring? Where an earlier walk came by, it also came to the end, so that all walks together take no more steps than there are classes.
func (x *inspection) leadsToRing(class api.Word) bool {
	x.walks++
	for c := range lineage(x.h, class) {
		if walk, before := x.walked[c]; before {
			return walk == x.walks
		}
		x.walked[c] = x.walks
	}
	return false
}

// hasFieldsAbove: does a superclass of a special class ask for fields?
func (x *inspection) hasFieldsAbove(k int) bool {
	class := Special(x.h, k)
	for c, f := range lineage(x.h, class) {
		if c != class && f.fields != 0 {
			return true
		}
	}
	return false
}

// checkDict is an error if the dictionary of a class may not be.
func (x *inspection) checkDict(class api.Word, f form) error {
	// One field leads to it, that of this class. That it is neither a class nor the Root is known from the objects.
	if f.dict != 0 && x.led[f.dict] != 1 {
		return errShared
	}
	fields := Fields(x.h, class)
	none := Special(x.h, api.Nil)
	seen := map[api.Word]struct{}{}
	for _, p := range pairs(x.h, f.dict) {
		if p.selector == none {
			if p.method != none {
				return errHole
			}
			continue
		}
		if _, twice := seen[p.selector]; twice || !isSelector(x.h, p.selector) {
			return errSelector
		}
		seen[p.selector] = struct{}{}
		if !x.mayRun(use{p.method, fields}) {
			return errMethod
		}
	}
	return nil
}

// mayRun is runs, with what was answered before remembered.
func (x *inspection) mayRun(u use) bool {
	if _, before := x.runs[u]; before {
		return true
	}
	if !runs(x.h, u.method, u.fields) {
		return false
	}
	x.runs[u] = struct{}{}
	return true
}
