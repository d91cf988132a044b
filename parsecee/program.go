package parsecee

import (
	"pantograph/api"
	"pantograph/parse"
)

func (x reader) program() api.Program {
	p := api.Program{Before: x.Comments().Texts}
	x.Need("program")
	p.Name = x.NeedPlain()
	x.Need(";")
	ahead := x.Comments()
	p.Recs, ahead = parse.Row(x.Reader, ahead, x.On("struct"), x.record)
	p.Vars, p.Routines, ahead = x.declarations(ahead)
	p.Mid = ahead.Texts
	x.NeedRow("main", "{")
	p.Body, p.End = x.stmts(x.Comments(), 1)
	p.After = x.Comments().Texts
	x.NeedEnd()
	return p
}

func (x reader) record(before []string) api.Rec {
	x.Item(x.Next().Pos)
	x.Need("struct")
	r := api.Rec{Name: x.NeedPlain()}
	x.Need("{")
	r.Fields, r.End = parse.Closed(x.Reader, x.Comments(), 1, "}", x.field)
	x.Need(";")
	r.Marks = x.Marks(before)
	return r
}

func (x reader) field(before []string) api.Field {
	f := api.Field{Kind: x.scalar(), Name: x.NeedPlain()}
	x.Need(";")
	f.Marks = x.Marks(before)
	return f
}

// scalars are the kinds that have a word.
func scalars() map[string]int {
	return map[string]int{"int": api.KindInt, "bool": api.KindBool, "char": api.KindChar}
}

func (x reader) scalar() int {
	return scalars()[x.Need("int", "bool", "char")]
}

func (x reader) isScalar() bool { return x.Is("int", "bool", "char") }

// typeAhead is what stands of a type ahead of the name of what has it.
func (x reader) typeAhead() api.Type {
	if x.Next().Kind == api.TokName {
		return api.Type{Kind: api.KindRec, Name: x.NeedPlain()}
	}
	return api.Type{Kind: x.scalar()}
}

// typeBehind is t with what may stand of it behind that name.
func (x reader) typeBehind(t api.Type) api.Type {
	if t.Kind == api.KindRec || x.Take("[") == "" {
		return t
	}
	t.Size = x.NeedSize()
	x.Need("]")
	return t
}

// beginsLocal: in a routine a name alone may begin a statement too.
func (x reader) beginsLocal() bool {
	return x.isScalar() || x.Next().Kind == api.TokName && x.Second().Kind == api.TokName
}

func (x reader) local(before []string) api.Var {
	x.Item(x.Next().Pos)
	t := x.typeAhead()
	return x.variable(before, t, x.NeedKind(api.TokName))
}

// variable is the one of that name, behind which the rest of it stands.
func (x reader) variable(before []string, t api.Type, name api.Tok) api.Var {
	x.RefuseParts(name)
	v := api.Var{Name: name.Text, T: x.typeBehind(t)}
	x.Need(";")
	v.Marks = x.Marks(before)
	return v
}
