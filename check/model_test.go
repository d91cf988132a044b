package check

import (
	"strconv"

	"pantograph/api"
)

// The model says it as the chapter does: all items in one row, of each the routines around it, and of each name all that it may name there, put together anew.

// spot is an item: one of rec, of a variable of a list, a routine of a list, or a statement stands in it. around: the routines around it, the outermost one first.
type spot struct {
	around   []*api.Routine
	rec      int
	variable int
	routine  *api.Routine
	stmt     *api.Stmt
}

type model struct {
	p     api.Program
	spots []spot
}

func newModel(p api.Program) *model {
	m := &model{p: p}
	for i := range p.Recs {
		m.spots = append(m.spots, spot{rec: i, variable: -1})
	}
	m.within(nil, p.Vars, p.Routines, p.Body)
	return m
}

func (m *model) within(around []*api.Routine, vars []api.Var, routines []api.Routine, body []api.Stmt) {
	for i := range vars {
		m.spots = append(m.spots, spot{around: around, rec: -1, variable: i})
	}
	for i := range routines {
		r := &routines[i]
		m.spots = append(m.spots, spot{around: around, rec: -1, variable: -1, routine: r})
		m.within(append(append([]*api.Routine{}, around...), r), r.Vars, r.Inner, r.Body)
	}
	m.stmts(around, body)
}

func (m *model) stmts(around []*api.Routine, l []api.Stmt) {
	for i := range l {
		m.spots = append(m.spots, spot{around: around, rec: -1, variable: -1, stmt: &l[i]})
		m.stmts(around, l[i].Body)
		m.stmts(around, l[i].Else)
	}
}

func (m *model) check() (int, api.Errno) {
	for i, s := range m.spots {
		if e := m.errno(s); e != api.OK {
			return i, e
		}
	}
	return 0, api.OK
}

func (m *model) errno(s spot) api.Errno {
	switch {
	case s.rec >= 0:
		return m.record(s.rec)
	case s.variable >= 0:
		return m.variable(s.around, s.variable)
	case s.routine != nil:
		return m.routine(s.around, s.routine)
	}
	return m.stmt(s.around, s.stmt)
}

func (m *model) record(at int) api.Errno {
	r := m.p.Recs[at]
	for _, ahead := range m.p.Recs[:at] {
		if ahead.Name == r.Name {
			return api.ErrTwice
		}
	}
	for i, a := range r.Fields {
		for _, b := range r.Fields[i+1:] {
			if a.Name == b.Name {
				return api.ErrTwice
			}
		}
	}
	return api.OK
}

func (m *model) recordOf(name string) *api.Rec {
	for i := range m.p.Recs {
		if m.p.Recs[i].Name == name {
			return &m.p.Recs[i]
		}
	}
	return nil
}

// names are those visible in the Body of the innermost one of around, but for what is left out of it.
func (m *model) names(around []*api.Routine, params, vars, inner bool) []string {
	var l []string
	for _, r := range m.p.Recs {
		l = append(l, r.Name)
	}
	last := len(around) - 1
	for _, v := range m.p.Vars {
		if last >= 0 || vars {
			l = append(l, v.Name)
		}
	}
	for _, r := range m.p.Routines {
		if last >= 0 || inner {
			l = append(l, r.Name)
		}
	}
	for i, r := range around {
		for _, x := range r.Params {
			if i < last || params {
				l = append(l, x.Name)
			}
		}
		for _, x := range r.Vars {
			if i < last || vars {
				l = append(l, x.Name)
			}
		}
		for _, x := range r.Inner {
			if i < last || inner {
				l = append(l, x.Name)
			}
		}
	}
	return l
}

func among(l []string, name string) bool {
	for _, s := range l {
		if s == name {
			return true
		}
	}
	return false
}

func (m *model) missing(t api.Type) bool { return t.Kind == api.KindRec && m.recordOf(t.Name) == nil }

func (m *model) variable(around []*api.Routine, at int) api.Errno {
	l := m.p.Vars
	if n := len(around); n > 0 {
		l = around[n-1].Vars
	}
	taken := m.names(around, true, false, true)
	for _, ahead := range l[:at] {
		taken = append(taken, ahead.Name)
	}
	if among(taken, l[at].Name) {
		return api.ErrTwice
	}
	if m.missing(l[at].T) {
		return api.ErrNone
	}
	return api.OK
}

func (m *model) routine(around []*api.Routine, r *api.Routine) api.Errno {
	if among(m.names(around, true, true, false), r.Name) {
		return api.ErrTwice
	}
	taken := m.names(around, true, true, true)
	for _, x := range r.Params {
		if among(taken, x.Name) {
			return api.ErrTwice
		}
		if m.missing(x.T) {
			return api.ErrNone
		}
		taken = append(taken, x.Name)
	}
	if r.Result != 0 && !m.ends(r.Body) {
		return api.ErrReturn
	}
	return api.OK
}

func (m *model) ends(l []api.Stmt) bool {
	n := 0
	for _, s := range l {
		if s.Op == api.StReturn || s.Op == api.StIf && s.More && m.ends(s.Body) && m.ends(s.Else) {
			n++
		}
	}
	return n > 0
}

// A type as words; a scalar is the word of its kind.
var kindWords = map[int]string{api.KindInt: "int", api.KindBool: "bool", api.KindChar: "char"}

func typeWord(t api.Type) string {
	if t.Kind == api.KindRec {
		return "record " + t.Name
	}
	if t.Size > 0 {
		return strconv.Itoa(t.Size) + " of " + kindWords[t.Kind]
	}
	return kindWords[t.Kind]
}

func (m *model) local(around []*api.Routine, name string) (api.Type, bool) {
	var t api.Type
	found := false
	hold := func(s string, typ api.Type) {
		if s == name {
			t, found = typ, true
		}
	}
	for _, v := range m.p.Vars {
		hold(v.Name, v.T)
	}
	for _, r := range around {
		for _, x := range r.Params {
			hold(x.Name, x.T)
		}
		for _, x := range r.Vars {
			hold(x.Name, x.T)
		}
	}
	return t, found
}

func (m *model) callee(around []*api.Routine, name string) *api.Routine {
	var found *api.Routine
	lists := [][]api.Routine{m.p.Routines}
	for _, r := range around {
		lists = append(lists, r.Inner)
	}
	for _, l := range lists {
		for i := range l {
			if l[i].Name == name {
				found = &l[i]
			}
		}
	}
	return found
}

// failure is what the model leaves an expression or a statement by.
type failure struct{ e api.Errno }

func need(ok bool, e api.Errno) {
	if !ok {
		panic(failure{e})
	}
}

func (m *model) stmt(around []*api.Routine, s *api.Stmt) (e api.Errno) {
	defer func() {
		if f, ok := recover().(failure); ok {
			e = f.e
		}
	}()
	x := reckoner{m, around}
	const any = "int bool char"
	switch s.Op {
	case api.StSet:
		x.value(s.E[0], x.value(s.P, any))
	case api.StCall:
		x.call(s.E[0], false)
	case api.StIf, api.StWhile, api.StRepeat:
		x.value(s.E[0], "bool")
	case api.StFor:
		t, ok := m.local(around, s.Name)
		need(ok, api.ErrNone)
		need(typeWord(t) == "int", api.ErrType)
		x.value(s.E[0], "int")
		x.value(s.E[1], "int")
	case api.StRead:
		x.value(s.P, "int char")
	case api.StWrite:
		x.value(s.E[0], any)
	case api.StReturn:
		if len(around) == 0 || around[len(around)-1].Result == 0 {
			need(len(s.E) == 0, api.ErrReturn)
			break
		}
		need(len(s.E) == 1, api.ErrReturn)
		x.value(s.E[0], kindWords[around[len(around)-1].Result])
	}
	return api.OK
}

type reckoner struct {
	*model
	around []*api.Routine
}

func (x reckoner) value(e api.Expr, words string) string {
	t := x.typ(e)
	need(has(words, t) && t != "", api.ErrType)
	return t
}

func (x reckoner) named(e api.Expr) api.Type {
	t, ok := x.local(x.around, e.Name)
	need(ok, api.ErrNone)
	return t
}

func (x reckoner) typ(e api.Expr) string {
	switch op := e.Op; {
	case op <= api.ExChar:
		return []string{"int", "bool", "char"}[op-1]
	case op == api.ExVar:
		return typeWord(x.named(e))
	case op == api.ExIndex:
		t := x.named(e)
		need(t.Size > 0, api.ErrType)
		x.value(e.L[0], "int")
		return kindWords[t.Kind]
	case op == api.ExField:
		t := x.named(e)
		need(t.Kind == api.KindRec, api.ErrType)
		for _, f := range x.recordOf(t.Name).Fields {
			if f.Name == e.Field {
				return kindWords[f.Kind]
			}
		}
		need(false, api.ErrNone)
	case op == api.ExCall:
		return x.call(e, true)
	}
	return x.sign(e)
}

func (x reckoner) sign(e api.Expr) string {
	const i, b = "int", "bool"
	result, first := i, i
	switch e.Op {
	case api.ExNot, api.ExAnd, api.ExAndThen, api.ExOr, api.ExOrElse:
		result, first = b, b
	case api.ExEq, api.ExNe:
		result, first = b, "int bool char"
	case api.ExLt, api.ExLe, api.ExGt, api.ExGe:
		result, first = b, "int char"
	}
	first = x.value(e.L[0], first)
	if len(e.L) > 1 {
		x.value(e.L[1], first)
	}
	return result
}

func (x reckoner) call(e api.Expr, value bool) string {
	r := x.callee(x.around, e.Name)
	need(r != nil, api.ErrNone)
	need(value == (r.Result != 0), api.ErrType)
	need(len(e.L) == len(r.Params), api.ErrCount)
	for i, o := range e.L {
		if p := r.Params[i]; p.Mode == api.ByValue {
			x.value(o, typeWord(p.T))
		} else {
			need(o.Op >= api.ExVar && o.Op <= api.ExField, api.ErrType)
			need(x.typ(o) == typeWord(p.T), api.ErrType)
		}
	}
	return kindWords[r.Result]
}
