package parsepas

import (
	"pantograph/api"
	"pantograph/parse"
)

func (x reader) routines(ahead parse.Slot, deep int) ([]api.Routine, parse.Slot) {
	f := x.Family()
	for x.Is("procedure", "function") {
		x.Depth(deep)
		x.Room(len(f.List))
		x.routine(f, ahead, deep)
		ahead = x.Comments()
	}
	f.NeedDefined()
	return f.List, ahead
}

func (x reader) routine(f *parse.Family, ahead parse.Slot, deep int) {
	h := x.heading(ahead)
	if x.Take("forward") != "" {
		f.Announce(h)
		x.Need(";")
		return
	}
	f.Define(h)
	f.Add(x.behind(h, deep))
}

// behind is the routine of h, with all that stands behind its heading.
func (x reader) behind(h parse.Heading, deep int) api.Routine {
	r := h.Routine
	ahead := x.Comments()
	r.Vars, ahead = parse.Row(x.Reader, ahead, x.On("var"), x.variable)
	r.Inner, ahead = x.routines(ahead, deep+1)
	x.Forbid(ahead)
	x.Need("begin")
	r.Body, r.End = x.stmts(1, "end")
	x.Need(";")
	r.Marks = x.Marks(h.Ahead.Texts)
	return r
}

func (x reader) heading(ahead parse.Slot) parse.Heading {
	h := parse.Heading{Ahead: ahead, First: x.Next().Pos}
	word := x.Need("procedure", "function")
	h.At = x.Next().Pos
	h.Name = x.NeedName()
	h.Params = x.params()
	if word == "function" {
		x.Need(":")
		h.Result = x.scalar()
	}
	x.Need(";")
	return h
}

func (x reader) params() []api.Param {
	if x.Take("(") == "" {
		return nil
	}
	list := []api.Param{x.param()}
	for x.Take(";") != "" {
		x.Room(len(list))
		list = append(list, x.param())
	}
	x.Need(")")
	return list
}

func (x reader) param() api.Param {
	if x.Take("var") == "" {
		p := api.Param{Name: x.NeedName()}
		x.Need(":")
		p.T.Kind = x.scalar()
		return p
	}
	p := api.Param{Name: x.NeedName(), Mode: api.ByRef}
	x.Need(":")
	p.T = x.anyType()
	return p
}
