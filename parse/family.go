package parse

import (
	"slices"

	"pantograph/api"
)

// Heading is how a routine begins: the comments ahead of it, and the places of its first token and of its name.
type Heading struct {
	api.Routine
	Ahead     Slot
	First, At api.Pos
}

func (h Heading) same(other Heading) bool {
	return h.Result == other.Result && slices.Equal(h.Params, other.Params)
}

// Family is one list of routines as far as it has been read: who has a name in it is told by these alone.
type Family struct {
	*Reader
	List    []api.Routine
	forward []Heading // in their order
	ahead   map[string]Heading
	defined map[string]struct{}
}

func (x *Reader) Family() *Family {
	return &Family{Reader: x, ahead: map[string]Heading{}, defined: map[string]struct{}{}}
}

// None: has there been no routine, nor a heading that stands ahead?
func (f *Family) None() bool { return len(f.defined) == 0 && len(f.forward) == 0 }

func (f *Family) has(name string) bool {
	_, ok := f.defined[name]
	return ok
}

// NeedDefined: the list has ended, so no routine of a heading is still to come.
func (f *Family) NeedDefined() {
	for _, h := range f.forward {
		if !f.has(h.Name) {
			f.Fail(api.ErrNone, h.At)
		}
	}
}

// Announce takes a heading that stands ahead: it isn't in the tree, so no comment has a place at it.
func (f *Family) Announce(h Heading) {
	f.Forbid(h.Ahead)
	if _, twice := f.ahead[h.Name]; twice || f.has(h.Name) {
		f.Fail(api.ErrTwice, h.At)
	}
	f.ahead[h.Name] = h
	f.forward = append(f.forward, h)
}

// Define takes a routine's heading, behind which the rest of it stands; what that makes of it is added by Add.
func (f *Family) Define(h Heading) {
	if f.has(h.Name) {
		f.Fail(api.ErrTwice, h.At)
	}
	if announced, ok := f.ahead[h.Name]; ok && !announced.same(h) {
		f.Fail(api.ErrType, h.At)
	}
	f.defined[h.Name] = struct{}{}
	f.Item(h.First)
}

func (f *Family) Add(r api.Routine) { f.List = append(f.List, r) }
