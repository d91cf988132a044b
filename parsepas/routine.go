package parsepas

import (
	"slices"

	"pantograph/api"
)

// heading is how a routine begins; at is the place of its name.
type heading struct {
	api.Routine
	at api.Pos
}

func (h heading) same(other heading) bool {
	return h.Result == other.Result && slices.Equal(h.Params, other.Params)
}

// family is one list of routines as far as it has been read: who has a name in it is told by these alone.
type family struct {
	*reader
	deep    int
	list    []api.Routine
	forward []heading // in their order
	ahead   map[string]heading
	defined map[string]struct{}
}

func (x *reader) routines(ahead slot, deep int) ([]api.Routine, slot) {
	f := &family{reader: x, deep: deep, ahead: map[string]heading{}, defined: map[string]struct{}{}}
	for x.Is("procedure", "function") {
		x.depth(deep)
		x.room(len(f.list))
		f.routine(ahead)
		ahead = x.comments()
	}
	f.needDefined()
	return f.list, ahead
}

func (f *family) has(name string) bool {
	_, ok := f.defined[name]
	return ok
}

// needDefined: the list has ended, so no routine of a heading is still to come.
func (f *family) needDefined() {
	for _, h := range f.forward {
		if !f.has(h.Name) {
			f.Fail(api.ErrNone, h.at)
		}
	}
}

func (f *family) routine(ahead slot) {
	first := f.Next().Pos
	h := f.heading()
	if f.Take("forward") != "" {
		f.announce(h, ahead)
		return
	}
	f.define(h)
	f.items = append(f.items, first)
	f.list = append(f.list, f.behind(h, ahead.texts))
}

// announce takes a heading that stands ahead: it isn't in the tree, so no comment has a place at it.
func (f *family) announce(h heading, ahead slot) {
	f.forbid(ahead)
	if _, twice := f.ahead[h.Name]; twice || f.has(h.Name) {
		f.Fail(api.ErrTwice, h.at)
	}
	f.Need(";")
	f.ahead[h.Name] = h
	f.forward = append(f.forward, h)
}

// forbid: comments that stand nowhere in the tree are told only now, when it is seen what they stand ahead of.
func (f *family) forbid(s slot) {
	if len(s.texts) > 0 {
		f.Fail(api.ErrPlace, s.first)
	}
}

func (f *family) define(h heading) {
	if f.has(h.Name) {
		f.Fail(api.ErrTwice, h.at)
	}
	if announced, ok := f.ahead[h.Name]; ok && !announced.same(h) {
		f.Fail(api.ErrType, h.at)
	}
	f.defined[h.Name] = struct{}{}
}

// behind is the routine of h, with all that stands behind its heading.
func (f *family) behind(h heading, before []string) api.Routine {
	r := h.Routine
	ahead := f.comments()
	r.Vars, ahead = row(f.reader, ahead, "var", f.variable)
	r.Inner, ahead = f.routines(ahead, f.deep+1)
	f.forbid(ahead)
	f.Need("begin")
	r.Body, r.End = f.stmts(1, "end")
	f.Need(";")
	r.Marks = f.marks(before)
	return r
}

func (x *reader) heading() heading {
	word := x.Need("procedure", "function")
	h := heading{at: x.Next().Pos}
	h.Name = x.NeedName()
	h.Params = x.params()
	if word == "function" {
		x.Need(":")
		h.Result = x.scalar()
	}
	x.Need(";")
	return h
}

func (x *reader) params() []api.Param {
	if x.Take("(") == "" {
		return nil
	}
	list := []api.Param{x.param()}
	for x.Take(";") != "" {
		x.room(len(list))
		list = append(list, x.param())
	}
	x.Need(")")
	return list
}

func (x *reader) param() api.Param {
	if x.Take("var") == "" {
		p := api.Param{Name: x.NeedName()}
		x.Need(":")
		p.T.Kind = x.scalar()
		return p
	}
	p := api.Param{Name: x.NeedName(), Mode: api.ByRef}
	x.Need(":")
	p.T = x.anyType()
	return p
}
