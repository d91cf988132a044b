package tree

import (
	"reflect"
	"testing"

	"pantograph/api"
)

func wantSame(t *testing.T, a, b api.Program, want bool, what ...any) {
	t.Helper()
	if Same(a, b) != want || Same(b, a) != want {
		t.Errorf("Same: %v and %v, want %v: %v", Same(a, b), Same(b, a), want, what)
	}
}

func wantSameExpr(t *testing.T, a, b api.Expr, want bool, what ...any) {
	t.Helper()
	if SameExpr(a, b) != want || SameExpr(b, a) != want {
		t.Errorf("SameExpr: %v and %v, want %v: %v", SameExpr(a, b), SameExpr(b, a), want, what)
	}
}

// everywhere has something in each field of each type, and need not be right.
func everywhere() api.Program {
	p := nested()
	leaf := api.Expr{Op: 9, N: 8, Name: "n", Field: "f"}
	e := api.Expr{Op: 7, N: -6, Name: "m", Field: "g", L: []api.Expr{leaf, {}, leaf}}
	inmost := api.Stmt{Op: 5, Name: "s"}
	p.Body = append(p.Body, api.Stmt{
		Marks: marks("all"), Op: -1, Name: "t", P: e, E: []api.Expr{e, leaf}, Down: true, More: true,
		Body: []api.Stmt{inmost, {}}, Else: []api.Stmt{inmost}, End: []string{"", "x"}, End2: []string{"y", ""},
	})
	p.Vars[0].T = api.Type{Kind: 1, Size: 2, Name: "u"}
	return p
}

func someExpr() api.Expr {
	return api.Expr{Op: 7, N: 1, Name: "f", Field: "g", L: []api.Expr{number(1), apply(api.ExAdd, variable("a"), index("b", field("c", "x"))), up("a")}}
}

func TestSame(t *testing.T) {
	for i, p := range []api.Program{{}, {Name: "p"}, program(), nested(), lifted(), everywhere()} {
		wantSame(t, p, p, true, i)
		wantSame(t, p, copyOf(p), true, i)
	}
	wantSame(t, program(), nested(), false)
	wantSame(t, program(), lifted(), false)
	wantSame(t, api.Program{}, program(), false)
	for i, e := range []api.Expr{{}, number(1), someExpr()} {
		wantSameExpr(t, e, e, true, i)
		wantSameExpr(t, e, copyOf(e), true, i)
	}
	wantSameExpr(t, someExpr(), someExpr().L[1], false)
}

func TestWhatDiffersInOneFieldIsAnother(t *testing.T) {
	p := everywhere()
	seen := map[string]int{}
	eachValue(&p, func(path string, v reflect.Value) {
		if v.Kind() == reflect.Struct {
			for i := range v.NumField() {
				if !v.Field(i).IsZero() {
					seen[v.Type().Name()+"."+v.Type().Field(i).Name]++
				}
			}
		}
	})
	for _, x := range []any{api.Program{}, api.Rec{}, api.Field{}, api.Var{}, api.Type{}, api.Marks{}, api.Routine{}, api.Param{}, api.Stmt{}, api.Expr{}} {
		typ := reflect.TypeOf(x)
		for i := range typ.NumField() {
			if seen[typ.Name()+"."+typ.Field(i).Name] == 0 {
				t.Errorf("%s.%s is nowhere", typ.Name(), typ.Field(i).Name)
			}
		}
	}
	eachChange(p, func(path string, changed api.Program) { wantSame(t, p, changed, false, path) })
	e := someExpr()
	eachChange(e, func(path string, changed api.Expr) { wantSameExpr(t, e, changed, false, path) })
}

func TestNilAndEmptyListsAreTheSame(t *testing.T) {
	for i, p := range []api.Program{{}, program(), nested(), lifted(), everywhere()} {
		empty := copyOf(p)
		eachValue(&empty, func(path string, v reflect.Value) {
			if v.Kind() == reflect.Slice && v.IsNil() {
				v.Set(reflect.MakeSlice(v.Type(), 0, 2))
			}
		})
		wantSame(t, p, empty, true, i)
	}
	wantSameExpr(t, variable("a"), api.Expr{Op: api.ExVar, Name: "a", L: []api.Expr{}}, true)
	wantSameExpr(t, variable("a"), api.Expr{Op: api.ExVar, Name: "a", L: []api.Expr{{}}}, false)
}

func TestOrderOfElementsCounts(t *testing.T) {
	p := everywhere()
	q := copyOf(p)
	q.Mid[0], q.Mid[1] = q.Mid[1], q.Mid[0]
	wantSame(t, p, q, false)
	q = copyOf(p)
	q.Routines[0], q.Routines[1] = q.Routines[1], q.Routines[0]
	wantSame(t, p, q, false)
	wantSameExpr(t, apply(api.ExAdd, number(1), number(2)), apply(api.ExAdd, number(2), number(1)), false)
}

// What stands in the room behind a list is nobody's.
func TestSameReadsNoRoom(t *testing.T) {
	a := apply(api.ExNeg, []api.Expr{number(1), number(2)}[:1]...)
	b := apply(api.ExNeg, []api.Expr{number(1), number(3)}[:1]...)
	wantSameExpr(t, a, b, true)
	p := api.Program{Mid: []string{"a", "b"}[:1], Body: []api.Stmt{{Op: 1}, {Op: 2}}[:1]}
	q := api.Program{Mid: []string{"a", "c"}[:1], Body: []api.Stmt{{Op: 1}, {Op: 3}}[:1]}
	wantSame(t, p, q, true)
}
