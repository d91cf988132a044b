package tree

import (
	"math"
	"reflect"
	"strconv"
	"strings"
	"testing"

	"pantograph/api"
)

var (
	dialects   = []int{api.Pas, api.Cee}
	noDialects = []int{math.MinInt, -1, 2, 3, 256, math.MaxInt}
)

func number(n int64) api.Expr    { return api.Expr{Op: api.ExInt, N: n} }
func variable(s string) api.Expr { return api.Expr{Op: api.ExVar, Name: s} }
func up(s string) api.Expr       { return api.Expr{Op: api.ExUp, Name: s} }

func index(s string, by api.Expr) api.Expr {
	return api.Expr{Op: api.ExIndex, Name: s, L: []api.Expr{by}}
}

func field(s, f string) api.Expr { return api.Expr{Op: api.ExField, Name: s, Field: f} }

func call(s string, operands ...api.Expr) api.Expr {
	return api.Expr{Op: api.ExCall, Name: s, L: operands}
}

func apply(op int, operands ...api.Expr) api.Expr { return api.Expr{Op: op, L: operands} }

func marks(s string) api.Marks {
	return api.Marks{Before: []string{s + " ahead", "and once more"}, Trail: []string{s + " behind"}}
}

// statements has one of each kind, with all that it may have.
func statements() []api.Stmt {
	write := func(e api.Expr) api.Stmt { return api.Stmt{Op: api.StWrite, E: []api.Expr{e}} }
	return []api.Stmt{
		{Marks: marks("set"), Op: api.StSet, P: variable("a"), E: []api.Expr{apply(api.ExAdd, number(1), apply(api.ExNeg, index("b", number(2))))}},
		{Op: api.StSet, P: index("b", variable("a")), E: []api.Expr{{Op: api.ExChar, N: 65}}},
		{Marks: marks("call"), Op: api.StCall, E: []api.Expr{call("f", variable("a"), field("c", "x"))}},
		{Op: api.StCall, E: []api.Expr{call("g")}},
		{Marks: marks("if"), Op: api.StIf, E: []api.Expr{{Op: api.ExBool, N: 1}}, Body: []api.Stmt{write(number(1))}, End: []string{"end"}, More: true, Else: []api.Stmt{write(number(2))}, End2: []string{"end2"}},
		{Op: api.StIf, E: []api.Expr{{Op: api.ExBool}}, Body: []api.Stmt{write(number(3))}, End: []string{"end"}},
		{Marks: marks("while"), Op: api.StWhile, E: []api.Expr{apply(api.ExNot, variable("d"))}, Body: []api.Stmt{write(number(4))}, End: []string{"end"}},
		{Marks: marks("repeat"), Op: api.StRepeat, E: []api.Expr{apply(api.ExLe, number(1), number(2))}, Body: []api.Stmt{write(number(5))}, End: []string{"end"}},
		{Marks: marks("for"), Op: api.StFor, Name: "a", E: []api.Expr{number(1), number(9)}, Down: true, Body: []api.Stmt{write(number(6))}, End: []string{"end"}},
		{Marks: marks("read"), Op: api.StRead, P: field("c", "x")},
		{Marks: marks("write"), Op: api.StWrite, E: []api.Expr{variable("a")}},
		{Marks: marks("return"), Op: api.StReturn, E: []api.Expr{number(0)}},
		{Op: api.StReturn},
	}
}

// program is right of both dialects, and has all that is right of both.
func program() api.Program {
	return api.Program{
		Name:   "p",
		Before: []string{"before"}, Mid: []string{"mid", "more"}, After: []string{"after"},
		Recs: []api.Rec{
			{Marks: marks("rec"), Name: "point", Fields: []api.Field{{Marks: marks("field"), Name: "x", Kind: api.KindInt}, {Name: "y", Kind: api.KindBool}}, End: []string{"end"}},
			{Name: "other", Fields: []api.Field{{Name: "x", Kind: api.KindChar}}},
		},
		Vars: []api.Var{
			{Marks: marks("var"), Name: "a", T: api.Type{Kind: api.KindInt}},
			{Name: "b", T: api.Type{Kind: api.KindChar, Size: 3}},
			{Name: "c", T: api.Type{Kind: api.KindRec, Name: "point"}},
			{Name: "d", T: api.Type{Kind: api.KindBool}},
		},
		Routines: []api.Routine{
			{
				Marks: marks("routine"), Name: "f", Result: api.KindInt,
				Params: []api.Param{{Name: "v", T: api.Type{Kind: api.KindInt}}, {Name: "w", T: api.Type{Kind: api.KindRec, Name: "point"}, Mode: api.ByRef}, {Name: "z", T: api.Type{Kind: api.KindBool, Size: 2}, Mode: api.ByRef}},
				Vars:   []api.Var{{Marks: marks("local"), Name: "u", T: api.Type{Kind: api.KindRec, Name: "other"}}},
				Body:   statements(), End: []string{"end"},
			},
			{Name: "g"},
		},
		Body: statements(), End: []string{"end"},
	}
}

// nested has what Pas alone has.
func nested() api.Program {
	p := program()
	inmost := api.Routine{Marks: marks("inmost"), Name: "f", Body: statements(), End: []string{"end"}}
	p.Routines[0].Inner = []api.Routine{{Marks: marks("inner"), Name: "h", Params: []api.Param{{Name: "v", T: api.Type{Kind: api.KindChar}}}, Inner: []api.Routine{inmost}}, {Name: "i"}}
	return p
}

// lifted has what Cee alone has.
func lifted() api.Program {
	p := program()
	r := api.Routine{Name: "f$h$f", Params: []api.Param{{Name: "v", T: api.Type{Kind: api.KindInt}}, {Name: "u", T: api.Type{Kind: api.KindRec, Name: "other"}, Mode: api.ByUp}, {Name: "z", T: api.Type{Kind: api.KindInt}, Mode: api.ByUp}}}
	r.Body = []api.Stmt{{Op: api.StCall, E: []api.Expr{call("f$h$f", number(1), up("u"), up("z"))}}}
	p.Routines = append(p.Routines, r)
	return p
}

// copyOf is a copy without any memory of x, made without the code that is tested.
func copyOf[T any](x T) T {
	return copyOfValue(reflect.ValueOf(x)).Interface().(T)
}

func copyOfValue(v reflect.Value) reflect.Value {
	out := reflect.New(v.Type()).Elem()
	switch v.Kind() {
	case reflect.Struct:
		for i := range v.NumField() {
			out.Field(i).Set(copyOfValue(v.Field(i)))
		}
	case reflect.Slice:
		if v.IsNil() {
			return out
		}
		out.Set(reflect.MakeSlice(v.Type(), v.Len(), v.Len()))
		for i := range v.Len() {
			out.Index(i).Set(copyOfValue(v.Index(i)))
		}
	default:
		out.Set(v)
	}
	return out
}

// eachValue calls see with each field and each element of x, in the order in which they are declared, and with its path.
func eachValue[T any](x *T, see func(path string, v reflect.Value)) {
	walkValue("", reflect.ValueOf(x).Elem(), see)
}

func walkValue(path string, v reflect.Value, see func(path string, v reflect.Value)) {
	see(path, v)
	switch v.Kind() {
	case reflect.Struct:
		for i := range v.NumField() {
			walkValue(path+"."+v.Type().Field(i).Name, v.Field(i), see)
		}
	case reflect.Slice:
		for i := range v.Len() {
			walkValue(path+"["+strconv.Itoa(i)+"]", v.Index(i), see)
		}
	}
}

// eachChange hands over, one by one, copies of x that differ from it in one field, or in one element of a list, alone.
func eachChange[T any](x T, see func(path string, changed T)) {
	var paths []string
	eachValue(&x, func(path string, v reflect.Value) { paths = append(paths, path) })
	for at := range paths {
		for kind := range 3 {
			changed := copyOf(x)
			n := 0
			did := false
			eachValue(&changed, func(path string, v reflect.Value) {
				if n == at {
					did = change(v, kind)
				}
				n++
			})
			if did {
				see(paths[at]+" "+strconv.Itoa(kind), changed)
			}
		}
	}
}

func change(v reflect.Value, kind int) bool {
	switch v.Kind() {
	case reflect.String:
		v.SetString([]string{v.String() + "x", "x" + v.String(), strings.ToUpper(v.String()) + "$"}[kind])
	case reflect.Int, reflect.Int64:
		v.SetInt([]int64{v.Int() + 1, v.Int() - 1, v.Int() + 256}[kind])
	case reflect.Bool:
		v.SetBool(!v.Bool())
	case reflect.Slice:
		return changeList(v, kind)
	default:
		return false
	}
	return true
}

func changeList(v reflect.Value, kind int) bool {
	switch {
	case kind == 0:
		v.Set(reflect.Append(v, reflect.Zero(v.Type().Elem())))
		return true
	case v.Len() > 0 && kind == 1:
		v.Set(v.Slice(0, v.Len()-1))
		return true
	case v.Len() > 0 && kind == 2:
		v.Set(v.Slice(1, v.Len()))
		return true
	}
	return false
}

// onion is one expression, statement or routine within another one, so many in all.
func onion[T any](depth int, core T, around func(T) T) T {
	for range depth - 1 {
		core = around(core)
	}
	return core
}

func wantProgram(t *testing.T, dialect int, p api.Program, want api.Errno, what ...any) {
	t.Helper()
	if got := Check(dialect, p); got != want {
		t.Errorf("Check(%d): %d, want %d: %v", dialect, got, want, what)
	}
}

func wantExpr(t *testing.T, dialect int, e api.Expr, want api.Errno, what ...any) {
	t.Helper()
	if got := CheckExpr(dialect, e); got != want {
		t.Errorf("CheckExpr(%d): %d, want %d: %v", dialect, got, want, what)
	}
	// An expression is right just where a statement may have it.
	p := api.Program{Name: "p", Body: []api.Stmt{{Op: api.StWrite, E: []api.Expr{e}}}}
	wantProgram(t, dialect, p, want, what...)
}

// rightIf is what a check answers.
func rightIf(right bool) api.Errno {
	if right {
		return api.OK
	}
	return api.ErrArg
}
