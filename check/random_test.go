package check

import (
	"math/rand"
	"reflect"
	"strings"
	"testing"

	"pantograph/api"
	"pantograph/tree"
)

// maker makes programs that make sense. It holds what is visible where it stands.
type maker struct {
	*rand.Rand
	names    []string
	locals   []api.Var
	routines []*api.Routine
	recs     []api.Rec
	result   int
}

// free is a name that isn't visible; the same one may be there elsewhere.
func (m *maker) free() string {
	for {
		s := name(m.Intn(60))
		if !among(m.names, s) {
			m.names = append(m.names, s)
			return s
		}
	}
}

func (m *maker) kind() int { return 1 + m.Intn(3) }

func (m *maker) typ() api.Type {
	switch n := m.Intn(4); {
	case n == 0 && len(m.recs) > 0:
		return api.Type{Kind: api.KindRec, Name: m.recs[m.Intn(len(m.recs))].Name}
	case n == 1:
		return api.Type{Kind: m.kind(), Size: 1 + m.Intn(2)}
	}
	return scalar(m.kind())
}

func (m *maker) program() api.Program {
	p := api.Program{Name: "p"}
	for range m.Intn(3) {
		r := api.Rec{Name: m.free()}
		for i := range 1 + m.Intn(3) {
			r.Fields = append(r.Fields, api.Field{Name: name(i), Kind: m.kind()})
		}
		p.Recs = append(p.Recs, r)
	}
	m.recs = p.Recs
	m.inside(&p.Vars, &p.Routines, &p.Body, 0, 0)
	return p
}

func (m *maker) inside(vars *[]api.Var, routines *[]api.Routine, body *[]api.Stmt, result, depth int) {
	for range m.Intn(4) {
		*vars = append(*vars, api.Var{Name: m.free(), T: m.typ()})
	}
	m.locals = append(m.locals, *vars...)
	if depth < 3 {
		*routines = make([]api.Routine, m.Intn(4-depth))
	}
	for i := range *routines {
		(*routines)[i].Name = m.free()
	}
	for i := range *routines {
		m.heading(&(*routines)[i])
		m.routines = append(m.routines, &(*routines)[i])
	}
	for i := range *routines {
		m.routine(&(*routines)[i], depth+1)
	}
	m.result = result
	*body = m.stmts(3)
	if result != 0 {
		*body = append(*body, api.Stmt{Op: api.StReturn, E: []api.Expr{m.expr(result, 2)}})
	}
}

func (m *maker) heading(r *api.Routine) {
	r.Result = m.Intn(4)
	kept := len(m.names)
	for range m.Intn(4) {
		p := api.Param{Name: m.free(), T: m.typ(), Mode: api.ByRef}
		if p.T == scalar(p.T.Kind) && m.Intn(2) == 0 {
			p.Mode = api.ByValue
		}
		r.Params = append(r.Params, p)
	}
	m.names = m.names[:kept]
}

func (m *maker) routine(r *api.Routine, depth int) {
	names, locals, routines := len(m.names), len(m.locals), len(m.routines)
	for _, p := range r.Params {
		m.names = append(m.names, p.Name)
		m.locals = append(m.locals, api.Var{Name: p.Name, T: p.T})
	}
	m.inside(&r.Vars, &r.Inner, &r.Body, r.Result, depth)
	m.names, m.locals, m.routines = m.names[:names], m.locals[:locals], m.routines[:routines]
}

// place is one of just this type, if one is visible.
func (m *maker) place(t api.Type) (api.Expr, bool) {
	for _, at := range m.Perm(len(m.locals)) {
		v := m.locals[at]
		switch {
		case v.T == t:
			return use(v.Name), true
		case v.T.Size > 0 && t == scalar(v.T.Kind):
			return api.Expr{Op: api.ExIndex, Name: v.Name, L: []api.Expr{m.expr(api.KindInt, 1)}}, true
		case v.T.Kind == api.KindRec:
			for _, r := range m.recs {
				if f := r.Fields[m.Intn(len(r.Fields))]; r.Name == v.T.Name && t == scalar(f.Kind) {
					return api.Expr{Op: api.ExField, Name: v.Name, Field: f.Name}, true
				}
			}
		}
	}
	return api.Expr{}, false
}

// call is one of a routine with this result, if its operands can be had.
func (m *maker) call(result, depth int) (api.Expr, bool) {
search:
	for _, at := range m.Perm(len(m.routines)) {
		r := m.routines[at]
		if r.Result != result {
			continue
		}
		e := api.Expr{Op: api.ExCall, Name: r.Name}
		for _, p := range r.Params {
			o, ok := api.Expr{}, true
			if p.Mode == api.ByValue {
				o = m.expr(p.T.Kind, depth-1)
			} else if o, ok = m.place(p.T); !ok {
				continue search
			}
			e.L = append(e.L, o)
		}
		return e, true
	}
	return api.Expr{}, false
}

var signs = map[int][]int{
	api.KindInt:  {api.ExMul, api.ExDiv, api.ExMod, api.ExAdd, api.ExSub},
	api.KindBool: {api.ExAnd, api.ExAndThen, api.ExOr, api.ExOrElse},
}

func (m *maker) expr(kind, depth int) api.Expr {
	if depth > 0 {
		switch n := m.Intn(6); {
		case n < 2:
			if e, ok := m.place(scalar(kind)); ok {
				return e
			}
		case n == 2:
			if e, ok := m.call(kind, depth); ok {
				return e
			}
		case n == 3 && kind != api.KindChar:
			return api.Expr{Op: kind - api.KindInt + api.ExNeg, L: []api.Expr{m.expr(kind, depth-1)}}
		case n == 4 && kind != api.KindChar:
			l := signs[kind]
			return api.Expr{Op: l[m.Intn(len(l))], L: []api.Expr{m.expr(kind, depth-1), m.expr(kind, depth-1)}}
		case n == 5 && kind == api.KindBool:
			of := m.kind()
			op := api.ExEq + m.Intn(6)
			if of == api.KindBool {
				op = api.ExEq + m.Intn(2)
			}
			return api.Expr{Op: op, L: []api.Expr{m.expr(of, depth-1), m.expr(of, depth-1)}}
		}
	}
	return api.Expr{Op: kind, N: int64(m.Intn(2))}
}

func (m *maker) stmts(depth int) []api.Stmt {
	var l []api.Stmt
	for range m.Intn(4) {
		if s, ok := m.stmt(depth); ok {
			l = append(l, s)
		}
	}
	return l
}

func (m *maker) stmt(depth int) (s api.Stmt, ok bool) {
	s.Op = api.StSet + m.Intn(9)
	kind := m.kind()
	switch s.Op {
	case api.StSet, api.StRead:
		if s.Op == api.StRead && kind == api.KindBool {
			kind = api.KindInt
		}
		s.P, ok = m.place(scalar(kind))
		if s.Op == api.StSet {
			s.E = []api.Expr{m.expr(kind, 3)}
		}
		return s, ok
	case api.StCall:
		e, ok := m.call(0, 3)
		s.E = []api.Expr{e}
		return s, ok
	case api.StWrite:
		s.E = []api.Expr{m.expr(kind, 3)}
		return s, true
	case api.StReturn:
		if m.result != 0 {
			s.E = []api.Expr{m.expr(m.result, 3)}
		}
		return s, true
	}
	return m.compound(s, depth)
}

func (m *maker) compound(s api.Stmt, depth int) (api.Stmt, bool) {
	if depth == 0 {
		return s, false
	}
	s.Body = m.stmts(depth - 1)
	if s.Op != api.StFor {
		s.E = []api.Expr{m.expr(api.KindBool, 3)}
		if s.More = s.Op == api.StIf && m.Intn(2) == 0; s.More {
			s.Else = m.stmts(depth - 1)
		}
		return s, true
	}
	for _, at := range m.Perm(len(m.locals)) {
		if v := m.locals[at]; v.T == scalar(api.KindInt) {
			s.Name = v.Name
			s.E = []api.Expr{m.expr(api.KindInt, 3), m.expr(api.KindInt, 3)}
			return s, true
		}
	}
	return s, false
}

// another turns one value of a tree, and leaves it right of Pas, but perhaps for its names' sense; it tells whether it did.
func (m *maker) another(path string, v reflect.Value) bool {
	switch {
	case strings.HasSuffix(path, ".Name") || strings.HasSuffix(path, ".Field"):
		if v.String() == "" {
			return false
		}
		v.SetString(name(m.Intn(60)))
	case strings.HasSuffix(path, ".Kind") && v.Int() != api.KindRec:
		v.SetInt(int64(m.kind()))
	case strings.HasSuffix(path, ".Size") && v.Int() > 0:
		v.SetInt(int64(1 + m.Intn(2)))
	case strings.HasSuffix(path, ".Result"):
		v.SetInt(int64(m.Intn(4)))
	case strings.HasSuffix(path, ".Mode"):
		v.SetInt(int64(m.Intn(2)))
	case strings.HasSuffix(path, ".Op") && v.Int() >= api.ExMul && v.Int() <= api.ExGe:
		v.SetInt(int64(api.ExMul + m.Intn(api.ExGe-api.ExMul+1)))
	case strings.HasSuffix(path, ".More"):
		v.SetBool(false)
	case v.Type() == reflect.TypeFor[api.Expr]() && v.FieldByName("Op").Int() != 0:
		v.Set(reflect.ValueOf(m.expr(m.kind(), 2)))
	case v.Kind() == reflect.Slice && v.Len() > 0:
		at := m.Intn(v.Len())
		v.Set(reflect.AppendSlice(v.Slice3(0, at, at), v.Slice(at+1, v.Len())))
	default:
		return false
	}
	return true
}

// changed is p with one or two values that are others.
func (m *maker) changed(p api.Program) api.Program {
	q := copyOf(p)
	for range 1 + m.Intn(2) {
		places := 0
		eachValue("", reflect.ValueOf(&q), func(string, reflect.Value) { places++ })
		for done := false; !done; {
			at, n := m.Intn(places), 0
			eachValue("", reflect.ValueOf(&q), func(path string, v reflect.Value) {
				if n++; n == at+1 {
					done = m.another(path, v)
				}
			})
		}
	}
	return q
}

// isRight tells whether a tree is right of Pas, as the model asks for it.
func isRight(p api.Program) bool {
	return tree.Check(api.Pas, p) == api.OK
}

func TestRandomPrograms(t *testing.T) {
	t.Parallel()
	told := map[api.Errno]int{}
	for seed := range 400 {
		m := &maker{Rand: rand.New(rand.NewSource(int64(seed)))}
		p := m.program()
		if !isRight(p) {
			t.Fatal(seed, "isn't right of Pas")
		}
		wantProgram(t, p, 0, api.OK, "seed")
		if i, e := newModel(p).check(); i != 0 || e != api.OK {
			t.Fatal(seed, i, e)
		}
		if n := len(newModel(p).spots); n != Count(p) {
			t.Fatal(seed, n, Count(p))
		}
		m.names, m.locals, m.routines = nil, p.Vars, nil
		for n := range 20 {
			q := m.changed(p)
			if !isRight(q) {
				continue
			}
			i, e := newModel(q).check()
			if gotI, got := Check(q); gotI != i || got != e {
				t.Fatalf("seed %d, %d: Check: %d, %d, want %d, %d", seed, n, gotI, got, i, e)
			}
			told[e]++
		}
	}
	for _, e := range []api.Errno{api.OK, api.ErrTwice, api.ErrNone, api.ErrType, api.ErrCount, api.ErrReturn} {
		if told[e] < 50 {
			t.Error(told)
		}
	}
}
