package parsepas

import "pantograph/api"

func (x *reader) program() api.Program {
	p := api.Program{Before: x.comments().texts}
	x.Need("program")
	p.Name = x.NeedName()
	x.Need(";")
	ahead := x.comments()
	p.Recs, ahead = row(x, ahead, "type", x.record)
	p.Vars, ahead = row(x, ahead, "var", x.variable)
	p.Routines, ahead = x.routines(ahead, 1)
	p.Mid = ahead.texts
	x.Need("begin")
	p.Body, p.End = x.stmts(1, "end")
	x.Need(".")
	p.After = x.comments().texts
	x.NeedEnd()
	return p
}

func (x *reader) record(before []string) api.Rec {
	x.item()
	x.Need("type")
	r := api.Rec{Name: x.NeedName()}
	x.NeedRow("=", "record")
	r.Fields, r.End = closed(x, 1, "end", x.field)
	x.Need(";")
	r.Marks = x.marks(before)
	return r
}

func (x *reader) field(before []string) api.Field {
	f := api.Field{Name: x.NeedName()}
	x.Need(":")
	f.Kind = x.scalar()
	x.Need(";")
	f.Marks = x.marks(before)
	return f
}

func (x *reader) variable(before []string) api.Var {
	x.item()
	x.Need("var")
	v := api.Var{Name: x.NeedName()}
	x.Need(":")
	v.T = x.anyType()
	x.Need(";")
	v.Marks = x.marks(before)
	return v
}

// scalars are the kinds that have a word.
func scalars() map[string]int {
	return map[string]int{"integer": api.KindInt, "boolean": api.KindBool, "char": api.KindChar}
}

func (x *reader) scalar() int {
	return scalars()[x.Need("integer", "boolean", "char")]
}

func (x *reader) anyType() api.Type {
	if t, ok := x.TakeKind(api.TokName); ok {
		return api.Type{Kind: api.KindRec, Name: t.Text}
	}
	if x.Take("array") == "" {
		return api.Type{Kind: x.scalar()}
	}
	x.Need("[")
	size := x.size()
	x.NeedRow("]", "of")
	return api.Type{Kind: x.scalar(), Size: size}
}

func (x *reader) size() int {
	t := x.NeedKind(api.TokInt)
	if t.N < 1 || t.N > api.MaxSize {
		x.Fail(api.ErrNumber, t.Pos)
	}
	return int(t.N)
}
