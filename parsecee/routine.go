package parsecee

import (
	"pantograph/api"
	"pantograph/parse"
)

// begun is a declaration of a program as far as its name: only what stands behind that tells whether it is a variable or a routine.
type begun struct {
	ahead parse.Slot
	first api.Pos
	t     api.Type // none, if void stands in its place
	name  api.Tok
}

// declarations are a program's variables and routines, with the comments that are left ahead of what follows.
func (x reader) declarations(ahead parse.Slot) ([]api.Var, []api.Routine, parse.Slot) {
	var vars []api.Var
	f := x.Family()
	for x.Is("void") || x.isScalar() || x.Next().Kind == api.TokName {
		b := x.begun(ahead)
		if f.None() && x.isVariable(b) {
			vars = append(vars, x.global(b, len(vars)))
		} else {
			x.routine(f, b)
		}
		ahead = x.Comments()
	}
	f.NeedDefined()
	return vars, f.List, ahead
}

func (x reader) begun(ahead parse.Slot) begun {
	b := begun{ahead: ahead, first: x.Next().Pos}
	if x.Take("void") == "" {
		b.t = x.typeAhead()
	}
	b.name = x.NeedKind(api.TokName)
	if hasWord(b.name) {
		x.Fail(api.ErrName, b.name.Pos)
	}
	return b
}

// isVariable, where one may stand: void begins none, and a struct's name nothing else.
func (x reader) isVariable(b begun) bool {
	return b.t.Kind == api.KindRec || b.t.Kind != 0 && !x.Is("(")
}

// global is b, one more than so many. Its name is held against its form ahead of all that stands behind it.
func (x reader) global(b begun, count int) api.Var {
	x.RefuseParts(b.name)
	x.RoomAt(count, b.first)
	x.Item(b.first)
	return x.variable(b.ahead.Texts, b.t, b.name)
}

func (x reader) routine(f *parse.Family, b begun) {
	if b.t.Kind == api.KindRec {
		x.Refuse()
	}
	x.RoomAt(len(f.List), b.first)
	h := parse.Heading{Ahead: b.ahead, First: b.first, At: b.name.Pos}
	h.Name, h.Result = b.name.Text, b.t.Kind
	h.Params = x.params()
	if x.Take(";") != "" {
		f.Announce(h)
		return
	}
	f.Define(h)
	f.Add(x.behind(h))
}

// behind is the routine of h, with all that stands behind its heading.
func (x reader) behind(h parse.Heading) api.Routine {
	r := h.Routine
	x.Need("{")
	ahead := x.Comments()
	r.Vars, ahead = parse.Row(x.Reader, ahead, x.beginsLocal, x.local)
	r.Body, r.End = x.stmts(ahead, 1)
	r.Marks = x.Marks(h.Ahead.Texts)
	return r
}

func (x reader) params() []api.Param {
	x.Need("(")
	if x.Take(")") != "" {
		return nil
	}
	list := []api.Param{x.param()}
	for x.Take(",") != "" {
		x.Room(len(list))
		if list[len(list)-1].Mode == api.ByUp && !x.Is("up") {
			x.Refuse()
		}
		list = append(list, x.param())
	}
	x.Need(")")
	return list
}

func (x reader) param() api.Param {
	up := x.Take("up") != ""
	p := api.Param{T: x.typeAhead()}
	if !up && p.T.Kind != api.KindRec && !x.Is("&") {
		p.Name = x.NeedPlain()
		return p
	}
	x.Need("&")
	p.Name = x.NeedPlain()
	p.T = x.typeBehind(p.T)
	p.Mode = api.ByRef
	if up {
		p.Mode = api.ByUp
	}
	return p
}
