package capture

import (
	"math/rand"
	"slices"
	"testing"

	"pantograph/api"
	"pantograph/check"
	"pantograph/tree"
)

// maker makes programs that make sense. It holds what is visible where it stands.
type maker struct {
	*rand.Rand
	names    []string
	locals   []api.Var
	routines []*api.Routine
	result   int
}

// free is a name that isn't visible; the same one may be there elsewhere.
func (m *maker) free() string {
	for {
		s := name(m.Intn(60))
		if !slices.Contains(m.names, s) {
			m.names = append(m.names, s)
			return s
		}
	}
}

var types = []api.Type{{Kind: api.KindInt}, {Kind: api.KindBool}, {Kind: api.KindInt, Size: 2}, {Kind: api.KindRec, Name: "r"}}

func (m *maker) typ() api.Type { return types[m.Intn(len(types))] }

// program has a variable of each type, so that each operand can be had.
func (m *maker) program() api.Program {
	p := api.Program{Name: "p", Recs: []api.Rec{{Name: "r", Fields: []api.Field{{Name: "a", Kind: api.KindInt}, {Name: "b", Kind: api.KindBool}}}}}
	for i, t := range types {
		p.Vars = append(p.Vars, api.Var{Name: "w" + name(i), T: t})
	}
	m.locals = append(m.locals, p.Vars...)
	p.Routines = m.list(0)
	p.Body = m.stmts(2)
	return p
}

func (m *maker) list(depth int) []api.Routine {
	l := make([]api.Routine, m.Intn(5-depth))
	for i := range l {
		l[i].Name = m.free()
	}
	for i := range l {
		l[i].Result = m.Intn(3)
		kept := len(m.names)
		for range m.Intn(3) {
			l[i].Params = append(l[i].Params, m.param())
		}
		m.names = m.names[:kept]
		m.routines = append(m.routines, &l[i])
	}
	for i := range l {
		m.routine(&l[i], depth+1)
	}
	return l
}

func (m *maker) param() api.Param {
	p := api.Param{Name: m.free(), T: m.typ(), Mode: api.ByRef}
	if p.T.Size == 0 && p.T.Kind != api.KindRec {
		p.Mode = m.Intn(2)
	}
	return p
}

func (m *maker) routine(r *api.Routine, depth int) {
	names, locals, routines := len(m.names), len(m.locals), len(m.routines)
	for _, p := range r.Params {
		m.names = append(m.names, p.Name)
		m.locals = append(m.locals, api.Var{Name: p.Name, T: p.T})
	}
	for range m.Intn(3) {
		r.Vars = append(r.Vars, api.Var{Name: m.free(), T: m.typ()})
	}
	m.locals = append(m.locals, r.Vars...)
	r.Inner = m.list(depth)
	m.result = r.Result
	r.Body = m.stmts(2)
	if r.Result != 0 {
		r.Body = append(r.Body, api.Stmt{Op: api.StReturn, E: []api.Expr{m.expr(r.Result, 2)}})
	}
	m.result = 0
	m.names, m.locals, m.routines = m.names[:names], m.locals[:locals], m.routines[:routines]
}

func (m *maker) place(t api.Type) api.Expr {
	for {
		v := m.locals[m.Intn(len(m.locals))]
		switch {
		case v.T == t:
			return use(v.Name)
		case v.T.Size > 0 && t == integer:
			return api.Expr{Op: api.ExIndex, Name: v.Name, L: []api.Expr{m.expr(api.KindInt, 1)}}
		case v.T.Kind == api.KindRec && t.Size == 0:
			return api.Expr{Op: api.ExField, Name: v.Name, Field: string("ab"[t.Kind-api.KindInt])}
		}
	}
}

// call is one of a routine with this result, if there is one.
func (m *maker) call(result, depth int) (api.Expr, bool) {
	for _, at := range m.Perm(len(m.routines)) {
		r := m.routines[at]
		if r.Result != result {
			continue
		}
		e := api.Expr{Op: api.ExCall, Name: r.Name}
		for _, p := range r.Params {
			if p.Mode == api.ByValue {
				e.L = append(e.L, m.expr(p.T.Kind, depth-1))
			} else {
				e.L = append(e.L, m.place(p.T))
			}
		}
		return e, true
	}
	return api.Expr{}, false
}

func (m *maker) expr(kind, depth int) api.Expr {
	if depth > 0 {
		switch n := m.Intn(6); {
		case n < 2:
			return m.place(api.Type{Kind: kind})
		case n == 2:
			if e, ok := m.call(kind, depth); ok {
				return e
			}
		case n == 3:
			return api.Expr{Op: kind - api.KindInt + api.ExNeg, L: []api.Expr{m.expr(kind, depth-1)}}
		case kind == api.KindInt:
			return api.Expr{Op: api.ExMul + m.Intn(3), L: []api.Expr{m.expr(kind, depth-1), m.expr(kind, depth-1)}}
		default:
			return api.Expr{Op: api.ExEq + m.Intn(6), L: []api.Expr{m.expr(api.KindInt, depth-1), m.expr(api.KindInt, depth-1)}}
		}
	}
	return api.Expr{Op: kind, N: int64(m.Intn(2))}
}

func (m *maker) stmts(depth int) []api.Stmt {
	l := make([]api.Stmt, m.Intn(3))
	for i := range l {
		l[i] = m.stmt(depth)
	}
	return l
}

func (m *maker) stmt(depth int) api.Stmt {
	s := api.Stmt{Op: api.StSet + m.Intn(9), E: []api.Expr{m.expr(api.KindInt, 2)}}
	switch s.Op {
	case api.StSet:
		s.P = m.place(integer)
	case api.StRead:
		s.P, s.E = m.place(integer), nil
	case api.StReturn:
		if s.E = nil; m.result != 0 {
			s.E = []api.Expr{m.expr(m.result, 2)}
		}
	case api.StFor:
		for s.E = append(s.E, s.E[0]); s.Name == ""; {
			if v := m.locals[m.Intn(len(m.locals))]; v.T == integer {
				s.Name = v.Name
			}
		}
	case api.StIf, api.StWhile, api.StRepeat:
		s.E = []api.Expr{m.expr(api.KindBool, 2)}
	case api.StCall:
		e, ok := m.call(0, 2)
		if s.E[0] = e; !ok {
			return assign("wn0")
		}
	}
	if depth > 0 && s.Op >= api.StIf && s.Op <= api.StFor {
		s.Body = m.stmts(depth - 1)
		if s.More = s.Op == api.StIf; s.More {
			s.Else = m.stmts(depth - 1)
		}
	}
	return s
}

func TestRandomPrograms(t *testing.T) {
	t.Parallel()
	captured, byCall := 0, 0
	for seed := range 1500 {
		m := &maker{Rand: rand.New(rand.NewSource(int64(seed)))}
		p := m.program()
		if tree.Check(api.Pas, p) != api.OK {
			t.Fatal(seed, "isn't right of Pas")
		}
		if i, e := check.Check(p); e != api.OK {
			t.Fatal(seed, i, e)
		}
		ups, paths := calls(t, p, seed)
		w := newModel(p)
		if !slices.Equal(paths, w.paths()) {
			t.Fatal(seed, paths, w.paths())
		}
		used := w.ups()
		for w.round() {
		}
		wanted := w.ups()
		for i := range ups {
			if !slices.Equal(ups[i], wanted[i]) {
				t.Fatal(seed, paths[i], ups[i], wanted[i])
			}
			captured += len(ups[i])
			byCall += len(ups[i]) - len(used[i])
		}
		if len(ups) != len(wanted) {
			t.Fatal(seed, len(ups), len(wanted))
		}
	}
	if captured < 3000 || byCall < 1000 {
		t.Error(captured, byCall)
	}
}
