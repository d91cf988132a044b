package parsepas

import (
	"pantograph/api"
	"pantograph/parse"
)

func (x reader) program() api.Program {
	p := api.Program{Before: x.Comments().Texts}
	x.Need("program")
	p.Name = x.NeedName()
	x.Need(";")
	ahead := x.Comments()
	p.Recs, ahead = parse.Row(x.Reader, ahead, x.On("type"), x.record)
	p.Vars, ahead = parse.Row(x.Reader, ahead, x.On("var"), x.variable)
	p.Routines, ahead = x.routines(ahead, 1)
	p.Mid = ahead.Texts
	x.Need("begin")
	p.Body, p.End = x.stmts(1, "end")
	x.Need(".")
	p.After = x.Comments().Texts
	x.NeedEnd()
	return p
}

func (x reader) record(before []string) api.Rec {
	x.Item(x.Next().Pos)
	x.Need("type")
	r := api.Rec{Name: x.NeedName()}
	x.NeedRow("=", "record")
	r.Fields, r.End = parse.Closed(x.Reader, x.Comments(), 1, "end", x.field)
	x.Need(";")
	r.Marks = x.Marks(before)
	return r
}

func (x reader) field(before []string) api.Field {
	f := api.Field{Name: x.NeedName()}
	x.Need(":")
	f.Kind = x.scalar()
	x.Need(";")
	f.Marks = x.Marks(before)
	return f
}

func (x reader) variable(before []string) api.Var {
	x.Item(x.Next().Pos)
	x.Need("var")
	v := api.Var{Name: x.NeedName()}
	x.Need(":")
	v.T = x.anyType()
	x.Need(";")
	v.Marks = x.Marks(before)
	return v
}

// scalars are the kinds that have a word.
func scalars() map[string]int {
	return map[string]int{"integer": api.KindInt, "boolean": api.KindBool, "char": api.KindChar}
}

func (x reader) scalar() int {
	return scalars()[x.Need("integer", "boolean", "char")]
}

func (x reader) anyType() api.Type {
	if t, ok := x.TakeKind(api.TokName); ok {
		return api.Type{Kind: api.KindRec, Name: t.Text}
	}
	if x.Take("array") == "" {
		return api.Type{Kind: x.scalar()}
	}
	x.Need("[")
	size := x.NeedSize()
	x.NeedRow("]", "of")
	return api.Type{Kind: x.scalar(), Size: size}
}
