package tree

import (
	"strings"

	"pantograph/api"
)

// turner makes a program anew, in memory of its own. It comes upon the names in the document's order: its methods turn field by field in that order.
type turner struct {
	part func(part string) string
}

// turn keeps a nil list nil, so that nothing but names is another one.
func turn[T any](list []T, one func(T) T) []T {
	if list == nil {
		return nil
	}
	turned := make([]T, 0, len(list))
	for _, x := range list {
		turned = append(turned, one(x))
	}
	return turned
}

// name leaves empty parts as they are: they are no names.
func (t turner) name(s string) string {
	var turned []string
	for part := range parts(s) {
		if part != "" {
			part = t.part(part)
		}
		turned = append(turned, part)
	}
	return strings.Join(turned, partMark)
}

// note stays: what a comment says is no name.
func (t turner) note(s string) string { return s }

func (t turner) notes(list []string) []string { return turn(list, t.note) }

func (t turner) marks(m api.Marks) api.Marks {
	return api.Marks{Before: t.notes(m.Before), Trail: t.notes(m.Trail)}
}

func (t turner) program(p api.Program) api.Program {
	p.Name = t.name(p.Name)
	p.Before = t.notes(p.Before)
	p.Mid = t.notes(p.Mid)
	p.After = t.notes(p.After)
	p.Recs = turn(p.Recs, t.record)
	p.Vars = turn(p.Vars, t.variable)
	p.Routines = turn(p.Routines, t.routine)
	p.Body = turn(p.Body, t.stmt)
	p.End = t.notes(p.End)
	return p
}

func (t turner) record(r api.Rec) api.Rec {
	r.Marks = t.marks(r.Marks)
	r.Name = t.name(r.Name)
	r.Fields = turn(r.Fields, t.field)
	r.End = t.notes(r.End)
	return r
}

func (t turner) field(f api.Field) api.Field {
	f.Marks = t.marks(f.Marks)
	f.Name = t.name(f.Name)
	return f
}

func (t turner) variable(v api.Var) api.Var {
	v.Marks = t.marks(v.Marks)
	v.Name = t.name(v.Name)
	v.T.Name = t.name(v.T.Name)
	return v
}

func (t turner) routine(r api.Routine) api.Routine {
	r.Marks = t.marks(r.Marks)
	r.Name = t.name(r.Name)
	r.Params = turn(r.Params, t.param)
	r.Vars = turn(r.Vars, t.variable)
	r.Inner = turn(r.Inner, t.routine)
	r.Body = turn(r.Body, t.stmt)
	r.End = t.notes(r.End)
	return r
}

func (t turner) param(p api.Param) api.Param {
	p.Name = t.name(p.Name)
	p.T.Name = t.name(p.T.Name)
	return p
}

func (t turner) stmt(s api.Stmt) api.Stmt {
	s.Marks = t.marks(s.Marks)
	s.Name = t.name(s.Name)
	s.P = t.expr(s.P)
	s.E = turn(s.E, t.expr)
	s.Body = turn(s.Body, t.stmt)
	s.Else = turn(s.Else, t.stmt)
	s.End = t.notes(s.End)
	s.End2 = t.notes(s.End2)
	return s
}

func (t turner) expr(e api.Expr) api.Expr {
	e.Name = t.name(e.Name)
	e.Field = t.name(e.Field)
	e.L = turn(e.L, t.expr)
	return e
}
