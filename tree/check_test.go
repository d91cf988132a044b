package tree

import (
	"math"
	"reflect"
	"slices"
	"strconv"
	"strings"
	"testing"

	"pantograph/api"
	"pantograph/words"
)

func TestOrdinaryPrograms(t *testing.T) {
	for _, dialect := range dialects {
		wantProgram(t, dialect, program(), api.OK, "of both")
		wantProgram(t, dialect, nested(), rightIf(dialect == api.Pas), "with inner routines")
		wantProgram(t, dialect, lifted(), rightIf(dialect == api.Cee), "with parts and ups")
	}
}

func TestProgramsWithoutAnything(t *testing.T) {
	for _, dialect := range dialects {
		wantProgram(t, dialect, api.Program{}, api.ErrArg, "no name")
		wantProgram(t, dialect, api.Program{Name: "p"}, api.OK, "a name alone")
		wantProgram(t, dialect, api.Program{Name: "p", Before: []string{}, Mid: []string{}, After: []string{}, Recs: []api.Rec{}, Vars: []api.Var{}, Routines: []api.Routine{}, Body: []api.Stmt{}, End: []string{}}, api.OK, "lists without elements")
		wantExpr(t, dialect, api.Expr{}, api.ErrArg, "nothing")
	}
}

func TestDialectThatIsNone(t *testing.T) {
	for _, dialect := range noDialects {
		for _, p := range []api.Program{program(), nested(), lifted(), {Name: "p"}, {}} {
			wantProgram(t, dialect, p, api.ErrArg)
		}
		for _, e := range []api.Expr{number(1), variable("a"), call("f$g", up("a")), {}} {
			wantExpr(t, dialect, e, api.ErrArg)
		}
	}
}

// Nil lists and lists without elements are the same, also where nothing may be.
func TestListsWithoutElementsAreNothing(t *testing.T) {
	for dialect, p := range map[int]api.Program{api.Pas: nested(), api.Cee: lifted()} {
		eachValue(&p, func(path string, v reflect.Value) {
			if v.Kind() == reflect.Slice && v.IsNil() {
				v.Set(reflect.MakeSlice(v.Type(), 0, 3))
			}
		})
		wantProgram(t, dialect, p, api.OK)
	}
}

// What stands in a tree is looked at wherever it stands.
func TestWrongAnywhere(t *testing.T) {
	for dialect, p := range map[int]api.Program{api.Pas: nested(), api.Cee: lifted()} {
		spoil := func(path string, v reflect.Value) bool {
			switch {
			case v.Kind() == reflect.String:
				v.SetString("\x7f")
			case v.Kind() == reflect.Int && !strings.HasSuffix(path, ".Size"), v.Kind() == reflect.Int64:
				v.SetInt(-1)
			case v.Kind() == reflect.Int:
				v.SetInt(api.MaxSize + 1)
			default:
				return false
			}
			return true
		}
		places := 0
		eachValue(&p, func(string, reflect.Value) { places++ })
		for at := range places {
			changed, n := copyOf(p), 0
			eachValue(&changed, func(path string, v reflect.Value) {
				if n++; n == at+1 && spoil(path, v) {
					wantProgram(t, dialect, changed, api.ErrArg, path)
				}
			})
		}
	}
}

// typed are programs in which a type stands wherever one may, by value apart.
func typed(typ api.Type) map[string]api.Program {
	v := []api.Var{{Name: "v", T: typ}}
	param := []api.Param{{Name: "v", T: typ, Mode: api.ByRef}}
	return map[string]api.Program{
		"variable":  {Name: "p", Vars: v},
		"local":     {Name: "p", Routines: []api.Routine{{Name: "f", Vars: v}}},
		"parameter": {Name: "p", Routines: []api.Routine{{Name: "f", Params: param}}},
	}
}

func TestTypes(t *testing.T) {
	sizes := []int{math.MinInt, -1, 0, 1, 2, api.MaxSize - 1, api.MaxSize, api.MaxSize + 1, math.MaxInt}
	for kind := -1; kind <= 6; kind++ {
		for _, size := range sizes {
			for _, name := range []string{"", "r", "end", "int", "r$s"} {
				for _, dialect := range dialects {
					typ := api.Type{Kind: kind, Size: size, Name: name}
					scalar := kind == api.KindInt || kind == api.KindBool || kind == api.KindChar
					right := scalar && size >= 0 && size <= 64 && name == ""
					if kind == api.KindRec {
						right = size == 0 && (name == "r" || name == "end" && dialect == api.Cee || name == "int" && dialect == api.Pas)
					}
					for where, p := range typed(typ) {
						wantProgram(t, dialect, p, rightIf(right), where, typ)
					}
					byValue := api.Program{Name: "p", Routines: []api.Routine{{Name: "f", Params: []api.Param{{Name: "v", T: typ}}}}}
					wantProgram(t, dialect, byValue, rightIf(right && scalar && size == 0), "by value", typ)
					byUp := api.Program{Name: "p", Routines: []api.Routine{{Name: "f", Params: []api.Param{{Name: "v", T: typ, Mode: api.ByUp}}}}}
					wantProgram(t, dialect, byUp, rightIf(right && dialect == api.Cee), "by up", typ)
				}
			}
		}
	}
	for _, kind := range []int{math.MinInt, math.MaxInt} {
		for _, p := range typed(api.Type{Kind: kind}) {
			wantProgram(t, api.Pas, p, api.ErrArg)
		}
	}
}

func TestModesOfParameters(t *testing.T) {
	with := func(modes ...int) api.Program {
		var list []api.Param
		for i, mode := range modes {
			list = append(list, api.Param{Name: "v" + strconv.Itoa(i), T: api.Type{Kind: api.KindInt}, Mode: mode})
		}
		return api.Program{Name: "p", Routines: []api.Routine{{Name: "f", Params: list}}}
	}
	const val, ref, upm = api.ByValue, api.ByRef, api.ByUp
	for _, c := range []struct {
		modes    []int
		pas, cee bool
	}{
		{[]int{val}, true, true}, {[]int{ref}, true, true}, {[]int{ref, val, ref}, true, true},
		{[]int{upm}, false, true}, {[]int{upm, upm}, false, true}, {[]int{val, ref, upm, upm}, false, true},
		{[]int{upm, val}, false, false}, {[]int{upm, ref}, false, false}, {[]int{val, upm, ref, upm}, false, false}, {[]int{upm, upm, val}, false, false},
		{[]int{-1}, false, false}, {[]int{3}, false, false}, {[]int{math.MinInt}, false, false}, {[]int{val, math.MaxInt}, false, false}, {[]int{upm, 3}, false, false},
	} {
		wantProgram(t, api.Pas, with(c.modes...), rightIf(c.pas), c.modes)
		wantProgram(t, api.Cee, with(c.modes...), rightIf(c.cee), c.modes)
	}
}

func TestResults(t *testing.T) {
	for result := -1; result <= 5; result++ {
		for _, dialect := range dialects {
			p := api.Program{Name: "p", Routines: []api.Routine{{Name: "f", Result: result}}}
			wantProgram(t, dialect, p, rightIf(result >= 0 && result <= 3), result)
		}
	}
}

func TestInnerRoutines(t *testing.T) {
	p := api.Program{Name: "p", Routines: []api.Routine{{Name: "f", Inner: []api.Routine{{Name: "g"}}}}}
	wantProgram(t, api.Pas, p, api.OK)
	wantProgram(t, api.Cee, p, api.ErrArg)
	p.Routines[0].Inner[0].Name = "end"
	wantProgram(t, api.Pas, p, api.ErrArg)
}

// operands of each Op that names just so many.
func operandsOf(op int) int {
	switch {
	case op == api.ExIndex || op == api.ExNeg || op == api.ExNot:
		return 1
	case op >= api.ExMul && op <= api.ExGe:
		return 2
	}
	return 0
}

func hasName(op int) bool { return op >= api.ExVar && op <= api.ExCall }

// bareOf is the least right expression of an Op.
func bareOf(op int) api.Expr {
	e := api.Expr{Op: op}
	if hasName(op) || op == api.ExUp {
		e.Name = "a"
	}
	if op == api.ExField {
		e.Field = "x"
	}
	for range operandsOf(op) {
		e.L = append(e.L, number(1))
	}
	return e
}

func TestEachOp(t *testing.T) {
	for op := -2; op <= 30; op++ {
		known := op >= api.ExInt && op <= api.ExGe
		for _, dialect := range dialects {
			wantExpr(t, dialect, bareOf(op), rightIf(known), op)
			for count := range 5 {
				e := bareOf(op)
				e.L = nil
				for i := range count {
					e.L = append(e.L, number(int64(i)))
				}
				wantExpr(t, dialect, e, rightIf(known && (op == api.ExCall || count == operandsOf(op))), op, "operands", count)
			}
			e := bareOf(op)
			e.Field = "x"
			wantExpr(t, dialect, e, rightIf(op == api.ExField), op, "Field")
			e.Field = ""
			wantExpr(t, dialect, e, rightIf(known && op != api.ExField), op, "no Field")
			e = bareOf(op)
			e.Name = "a"
			wantExpr(t, dialect, e, rightIf(hasName(op)), op, "Name")
			e.Name = ""
			wantExpr(t, dialect, e, rightIf(known && !hasName(op)), op, "no Name")
		}
	}
	for _, op := range []int{math.MinInt, math.MaxInt, -api.ExInt, 256 + api.ExInt} {
		wantExpr(t, api.Pas, bareOf(op), api.ErrArg, op)
	}
}

func TestNumbers(t *testing.T) {
	numbers := []int64{math.MinInt64, -256, -1, 0, 1, 2, 254, 255, 256, 1 << 32, math.MaxInt64}
	for op := api.ExInt; op <= api.ExUp; op++ {
		for _, n := range numbers {
			most := int64(0)
			switch op {
			case api.ExInt:
				most = math.MaxInt64
			case api.ExBool:
				most = 1
			case api.ExChar:
				most = 255
			}
			e := bareOf(op)
			e.N = n
			for _, dialect := range dialects {
				wantExpr(t, dialect, e, rightIf(op != api.ExUp && n >= 0 && n <= most), op, n)
			}
		}
	}
}

func TestWrongOperands(t *testing.T) {
	for op := api.ExIndex; op <= api.ExGe; op++ {
		for at := range bareOf(op).L {
			for _, wrong := range []api.Expr{{}, {Op: api.ExInt, N: -1}, {Op: api.ExInt, Field: "a"}, variable("do"), up("a"), apply(api.ExNot), apply(api.ExNot, apply(api.ExNeg, api.Expr{}))} {
				e := bareOf(op)
				e.L[at] = wrong
				for _, dialect := range dialects {
					wantExpr(t, dialect, e, api.ErrArg, op, at, wrong)
				}
			}
		}
	}
}

// namers set a name at each spot that has one; those of routines may have parts in Cee.
func namers(dialect int) (plain, routines map[string]func(string) api.Program) {
	body := func(s api.Stmt) api.Program { return api.Program{Name: "p", Body: []api.Stmt{s}} }
	write := func(e api.Expr) api.Program { return body(api.Stmt{Op: api.StWrite, E: []api.Expr{e}}) }
	routine := func(r api.Routine) api.Program { return api.Program{Name: "p", Routines: []api.Routine{r}} }
	scalar := api.Type{Kind: api.KindInt}
	plain = map[string]func(string) api.Program{
		"program": func(s string) api.Program { return api.Program{Name: s} },
		"record": func(s string) api.Program {
			return api.Program{Name: "p", Recs: []api.Rec{{Name: s, Fields: []api.Field{{Name: "x", Kind: 1}}}}}
		},
		"field": func(s string) api.Program {
			return api.Program{Name: "p", Recs: []api.Rec{{Name: "r", Fields: []api.Field{{Name: s, Kind: 1}}}}}
		},
		"variable": func(s string) api.Program {
			return api.Program{Name: "p", Vars: []api.Var{{Name: s, T: scalar}}}
		},
		"its type": func(s string) api.Program {
			return api.Program{Name: "p", Vars: []api.Var{{Name: "v", T: api.Type{Kind: api.KindRec, Name: s}}}}
		},
		"parameter": func(s string) api.Program {
			return routine(api.Routine{Name: "f", Params: []api.Param{{Name: s, T: scalar}}})
		},
		"parameter's type": func(s string) api.Program {
			return routine(api.Routine{Name: "f", Params: []api.Param{{Name: "v", T: api.Type{Kind: api.KindRec, Name: s}, Mode: api.ByRef}}})
		},
		"local": func(s string) api.Program {
			return routine(api.Routine{Name: "f", Vars: []api.Var{{Name: s, T: scalar}}})
		},
		"for": func(s string) api.Program {
			return body(api.Stmt{Op: api.StFor, Name: s, E: []api.Expr{number(1), number(2)}})
		},
		"place":         func(s string) api.Program { return body(api.Stmt{Op: api.StRead, P: variable(s)}) },
		"ExVar":         func(s string) api.Program { return write(variable(s)) },
		"ExIndex":       func(s string) api.Program { return write(index(s, number(0))) },
		"ExField":       func(s string) api.Program { return write(field(s, "x")) },
		"ExField.Field": func(s string) api.Program { return write(field("a", s)) },
	}
	routines = map[string]func(string) api.Program{
		"routine":        func(s string) api.Program { return routine(api.Routine{Name: s}) },
		"call":           func(s string) api.Program { return write(call(s)) },
		"call statement": func(s string) api.Program { return body(api.Stmt{Op: api.StCall, E: []api.Expr{call(s)}}) },
	}
	if dialect == api.Cee {
		plain["ExUp"] = func(s string) api.Program { return write(call("f", up(s))) }
		plain["ByUp"] = func(s string) api.Program {
			return routine(api.Routine{Name: "f", Params: []api.Param{{Name: s, T: scalar, Mode: api.ByUp}}})
		}
	} else {
		routines["inner"] = func(s string) api.Program {
			return routine(api.Routine{Name: "f", Inner: []api.Routine{{Name: s}}})
		}
	}
	return plain, routines
}

func TestNamesAtEachSpot(t *testing.T) {
	long := strings.Repeat("a", api.MaxName)
	right := []string{"a", "z", "a0", "a_", "x_1y", "begin_1", "ints", long}
	wrong := []string{"", " ", "_", "_a", "0", "1a", "A", "aB", "a b", "a ", " a", "a-", "a.b", "\u00e9", "a\x00", "a\xff", long + "a", strings.Repeat("a", 1000)}
	// A word is right where the dialect hasn't it.
	right = append(append(right, words.All(api.Pas)...), words.All(api.Cee)...)
	for _, dialect := range dialects {
		plain, routines := namers(dialect)
		for where, with := range plain {
			routines[where] = with
		}
		for where, with := range routines {
			for _, name := range right {
				wantProgram(t, dialect, with(name), rightIf(!words.Is(dialect, name)), where, name)
			}
			for _, name := range wrong {
				wantProgram(t, dialect, with(name), api.ErrArg, where, name)
			}
		}
	}
}

func TestNamesOfParts(t *testing.T) {
	long := strings.Repeat("a", api.MaxName)
	right := []string{"f$g", "f$g$h", "f$f", "a1_$b2_", long + "$" + long, "g$" + long, "begin$end", strings.Repeat("f$", 100) + "f"}
	wrong := []string{"$", "$$", "$f", "f$", "f$$g", "f$g$", "$f$g", "f$1", "f$_", "f$G", "f$ g", "f $g", "f$int", "int$f", "f$up$g", "int$int", long + "a$f", "f$" + long + "a", "f$" + long + "a$g"}
	for _, dialect := range dialects {
		plain, routines := namers(dialect)
		for where, with := range plain {
			for _, name := range append(slices.Clone(right), wrong...) {
				wantProgram(t, dialect, with(name), api.ErrArg, where, name)
			}
		}
		for where, with := range routines {
			for _, name := range right {
				wantProgram(t, dialect, with(name), rightIf(dialect == api.Cee), where, name)
			}
			for _, name := range wrong {
				wantProgram(t, dialect, with(name), api.ErrArg, where, name)
			}
		}
	}
}

func TestUps(t *testing.T) {
	for _, e := range []api.Expr{
		call("f", up("a")), call("f", up("a"), up("a")), call("f", number(1), up("a"), up("b")),
		call("f", call("g", up("a")), up("b")), apply(api.ExNot, call("f$g", up("a"))), index("b", call("f", up("a"))),
	} {
		wantExpr(t, api.Cee, e, api.OK, e)
		wantExpr(t, api.Pas, e, api.ErrArg, e)
	}
	wrong := []api.Expr{
		up("a"), call("f", up("a"), number(1)), call("f", number(1), up("a"), number(2), up("b")), call("f", up("a"), up("b"), variable("c")),
		index("b", up("a")), apply(api.ExNeg, up("a")), apply(api.ExNot, up("a")), call("f", apply(api.ExNeg, up("a"))), call("f", call("g", up("a"), number(1)), up("b")),
		call("f", up("")), call("f", up("int")), call("f", up("a$b")), call("f", number(-1), up("a")),
		call("f", api.Expr{Op: api.ExUp, Name: "a", N: 1}), call("f", api.Expr{Op: api.ExUp, Name: "a", N: -1}), call("f", api.Expr{Op: api.ExUp, Name: "a", Field: "x"}),
		call("f", api.Expr{Op: api.ExUp, Name: "a", L: []api.Expr{number(1)}}), call("f", api.Expr{Op: api.ExUp, Name: "a", L: []api.Expr{up("b")}}), call("f", up("a"), api.Expr{}),
	}
	for op := api.ExMul; op <= api.ExGe; op++ {
		wrong = append(wrong, apply(op, up("a"), number(1)), apply(op, number(1), up("a")))
	}
	for _, e := range wrong {
		for _, dialect := range dialects {
			wantExpr(t, dialect, e, api.ErrArg, e)
		}
	}
	for _, s := range statements() {
		for at := range s.E {
			s.E[at] = up("a")
			wantProgram(t, api.Cee, api.Program{Name: "p", Body: []api.Stmt{s}}, api.ErrArg, s)
		}
	}
}

func TestUpsAreNotCounted(t *testing.T) {
	for _, c := range []struct {
		depth int
		right bool
	}{{1, true}, {api.MaxDepth - 1, true}, {api.MaxDepth, true}, {api.MaxDepth + 1, false}} {
		e := onion(c.depth, call("f", up("a"), up("b")), func(e api.Expr) api.Expr { return call("f", e, up("a")) })
		wantExpr(t, api.Cee, e, rightIf(c.right), c.depth)
		e = onion(c.depth, call("f", number(1), up("b")), func(e api.Expr) api.Expr { return apply(api.ExNeg, e) })
		wantExpr(t, api.Cee, e, rightIf(c.depth < api.MaxDepth), c.depth)
	}
}

// peels are all ways in which an expression has another one in it.
func peels() map[string]func(api.Expr) api.Expr {
	all := map[string]func(api.Expr) api.Expr{
		"index":         func(e api.Expr) api.Expr { return index("a", e) },
		"first of call": func(e api.Expr) api.Expr { return call("f", e, number(1)) },
		"last of call":  func(e api.Expr) api.Expr { return call("f", number(1), variable("a"), e) },
		"neg":           func(e api.Expr) api.Expr { return apply(api.ExNeg, e) },
		"not":           func(e api.Expr) api.Expr { return apply(api.ExNot, e) },
	}
	for op := api.ExMul; op <= api.ExGe; op++ {
		all["left of "+strconv.Itoa(op)] = func(e api.Expr) api.Expr { return apply(op, e, number(1)) }
		all["right of "+strconv.Itoa(op)] = func(e api.Expr) api.Expr { return apply(op, number(1), e) }
	}
	return all
}

func TestDepthOfExpressions(t *testing.T) {
	for where, peel := range peels() {
		for _, core := range []api.Expr{number(1), variable("a"), call("f")} {
			for _, dialect := range dialects {
				wantExpr(t, dialect, onion(api.MaxDepth-1, core, peel), api.OK, where)
				wantExpr(t, dialect, onion(api.MaxDepth, core, peel), api.OK, where)
				wantExpr(t, dialect, onion(api.MaxDepth+1, core, peel), api.ErrArg, where)
				wantExpr(t, dialect, onion(1000, core, peel), api.ErrArg, where)
			}
		}
	}
	deep := onion(api.MaxDepth-1, number(1), peels()["neg"])
	for _, dialect := range dialects {
		wantExpr(t, dialect, call("f", deep, number(1), deep), api.OK, "all operands as deep")
		wantExpr(t, dialect, call("f", deep, apply(api.ExNot, deep), deep), api.ErrArg, "one deeper")
		for right, place := range map[bool]api.Expr{true: index("a", deep), false: index("a", apply(api.ExNeg, deep))} {
			p := api.Program{Name: "p", Body: []api.Stmt{{Op: api.StRead, P: place}}}
			wantProgram(t, dialect, p, rightIf(right), "as a place")
		}
	}
}

// blocks are all ways in which a statement has another one in it.
func blocks() map[string]func(api.Stmt) api.Stmt {
	one := []api.Expr{number(1)}
	return map[string]func(api.Stmt) api.Stmt{
		"if": func(s api.Stmt) api.Stmt { return api.Stmt{Op: api.StIf, E: one, Body: []api.Stmt{s}} },
		"else": func(s api.Stmt) api.Stmt {
			return api.Stmt{Op: api.StIf, E: one, More: true, Else: []api.Stmt{{Op: api.StReturn}, s}}
		},
		"while":  func(s api.Stmt) api.Stmt { return api.Stmt{Op: api.StWhile, E: one, Body: []api.Stmt{s}} },
		"repeat": func(s api.Stmt) api.Stmt { return api.Stmt{Op: api.StRepeat, E: one, Body: []api.Stmt{s}} },
		"for": func(s api.Stmt) api.Stmt {
			return api.Stmt{Op: api.StFor, Name: "a", E: []api.Expr{number(1), number(2)}, Body: []api.Stmt{s}}
		},
	}
}

func routineWithin(r api.Routine) api.Routine {
	return api.Routine{Name: "f", Inner: []api.Routine{{Name: "g"}, r}}
}

func TestDepthOfStatements(t *testing.T) {
	for where, block := range blocks() {
		for _, depth := range []int{1, api.MaxDepth - 1, api.MaxDepth, api.MaxDepth + 1, 1000} {
			s := onion(depth, api.Stmt{Op: api.StReturn}, block)
			want := rightIf(depth <= api.MaxDepth)
			for _, dialect := range dialects {
				wantProgram(t, dialect, api.Program{Name: "p", Body: []api.Stmt{s}}, want, where, depth)
				wantProgram(t, dialect, api.Program{Name: "p", Routines: []api.Routine{{Name: "f", Body: []api.Stmt{s}}}}, want, where, depth)
			}
			inmost := onion(api.MaxDepth, api.Routine{Name: "h", Body: []api.Stmt{s}}, routineWithin)
			wantProgram(t, api.Pas, api.Program{Name: "p", Routines: []api.Routine{inmost}}, want, where, depth, "in the inmost routine")
		}
	}
}

// An expression's depth is its own, however deep its statement and its routine are.
func TestDepthsAreCountedApart(t *testing.T) {
	for depth, want := range map[int]api.Errno{api.MaxDepth: api.OK, api.MaxDepth + 1: api.ErrArg} {
		e := onion(depth, variable("a"), peels()["index"])
		for _, core := range []api.Stmt{{Op: api.StRead, P: e}, {Op: api.StWrite, E: []api.Expr{e}}, {Op: api.StSet, P: e, E: []api.Expr{e}}} {
			s := onion(api.MaxDepth, core, blocks()["else"])
			r := onion(api.MaxDepth, api.Routine{Name: "h", Body: []api.Stmt{s}}, routineWithin)
			wantProgram(t, api.Pas, api.Program{Name: "p", Routines: []api.Routine{r}}, want, depth)
		}
	}
}

func TestDepthOfRoutines(t *testing.T) {
	for _, depth := range []int{1, 2, api.MaxDepth - 1, api.MaxDepth, api.MaxDepth + 1, 1000} {
		r := onion(depth, api.Routine{Name: "h"}, routineWithin)
		wantProgram(t, api.Pas, api.Program{Name: "p", Routines: []api.Routine{{Name: "e"}, r}}, rightIf(depth <= api.MaxDepth), depth)
		wantProgram(t, api.Cee, api.Program{Name: "p", Routines: []api.Routine{r}}, rightIf(depth == 1), depth)
	}
}

func TestPlaces(t *testing.T) {
	for op := -1; op <= 26; op++ {
		place := op == api.ExVar || op == api.ExIndex || op == api.ExField
		for _, dialect := range dialects {
			for _, s := range []api.Stmt{{Op: api.StRead, P: bareOf(op)}, {Op: api.StSet, P: bareOf(op), E: []api.Expr{number(1)}}} {
				wantProgram(t, dialect, api.Program{Name: "p", Body: []api.Stmt{s}}, rightIf(place), op)
			}
		}
	}
	for _, e := range []api.Expr{variable(""), variable("do"), index("a", api.Expr{}), index("a", up("b")), field("a", ""), {Op: api.ExVar, Name: "a", N: 1}, {Op: api.ExIndex, Name: "a"}} {
		for _, dialect := range dialects {
			wantProgram(t, dialect, api.Program{Name: "p", Body: []api.Stmt{{Op: api.StRead, P: e}}}, api.ErrArg, e)
		}
	}
}

// noted hands over copies of p, each with list in another one of the slots in which p has comments.
func noted(p api.Program, list []string, see func(path string, p api.Program)) {
	texts := reflect.TypeFor[[]string]()
	var paths []string
	eachValue(&p, func(path string, v reflect.Value) {
		if v.Type() == texts && v.Len() > 0 {
			paths = append(paths, path)
		}
	})
	for _, at := range paths {
		changed := copyOf(p)
		eachValue(&changed, func(path string, v reflect.Value) {
			if path == at {
				v.Set(reflect.ValueOf(list))
			}
		})
		see(at, changed)
	}
}

func TestComments(t *testing.T) {
	var some strings.Builder
	for b := byte(0x20); b < 0x7f; b++ {
		some.WriteByte(b)
	}
	right := []string{"", "\t\n", some.String(), "*/ } { /* \\ '", strings.Repeat("a", api.MaxNote), strings.Repeat("\\}*/", api.MaxNote/4)}
	wrong := []string{strings.Repeat("a", api.MaxNote+1), "\u00e9", "a\rb", "a\x00", "\x08", "\x0b", "\x1f", "a\x7f", "\x80", "\xff"}
	kinds := map[string]int{}
	for dialect, p := range map[int]api.Program{api.Pas: nested(), api.Cee: lifted()} {
		noted(p, right, func(path string, p api.Program) {
			wantProgram(t, dialect, p, api.OK, path)
			kinds[path[strings.LastIndex(path, ".")+1:]]++
		})
		for _, s := range wrong {
			noted(p, []string{"right", s}, func(path string, p api.Program) { wantProgram(t, dialect, p, api.ErrArg, path, s) })
		}
	}
	for _, kind := range []string{"Before", "Trail", "Mid", "After", "End", "End2"} {
		if kinds[kind] == 0 {
			t.Errorf("no slot %s was looked at", kind)
		}
	}
}

func TestCommentsOfEachByte(t *testing.T) {
	for b := range 256 {
		p := api.Program{Name: "p", Mid: []string{string([]byte{'a', byte(b)})}}
		for _, dialect := range dialects {
			wantProgram(t, dialect, p, rightIf(b == 9 || b == 10 || b >= 0x20 && b <= 0x7e), b)
		}
	}
}

func TestManyComments(t *testing.T) {
	for dialect, p := range map[int]api.Program{api.Pas: nested(), api.Cee: lifted()} {
		noted(p, make([]string, api.MaxItems), func(path string, p api.Program) { wantProgram(t, dialect, p, api.OK, path) })
		noted(p, make([]string, api.MaxItems+1), func(path string, p api.Program) { wantProgram(t, dialect, p, api.ErrArg, path) })
	}
}

// stmtParts is what each kind of statement names: fields beside Op and Marks; how many E.
func stmtParts(op int) (fields string, least, most int) {
	switch op {
	case api.StSet:
		return "P", 1, 1
	case api.StCall, api.StWrite:
		return "", 1, 1
	case api.StIf:
		return "Body End More", 1, 1
	case api.StWhile, api.StRepeat:
		return "Body End", 1, 1
	case api.StFor:
		return "Name Down Body End", 2, 2
	case api.StRead:
		return "P", 0, 0
	case api.StReturn:
		return "", 0, 1
	}
	return "", 0, -1
}

// bareStmt is the least right statement of an Op.
func bareStmt(op int) api.Stmt {
	fields, least, _ := stmtParts(op)
	s := api.Stmt{Op: op}
	if strings.Contains(fields, "P") {
		s.P = variable("a")
	}
	if strings.Contains(fields, "Name") {
		s.Name = "a"
	}
	for range least {
		s.E = append(s.E, call("f"))
	}
	return s
}

func wantStmt(t *testing.T, s api.Stmt, want api.Errno, what ...any) {
	t.Helper()
	for _, dialect := range dialects {
		wantProgram(t, dialect, api.Program{Name: "p", Body: []api.Stmt{s}}, want, what...)
		wantProgram(t, dialect, api.Program{Name: "p", Routines: []api.Routine{{Name: "f", Body: []api.Stmt{{Op: api.StReturn}, s}}}}, want, what...)
		wantProgram(t, dialect, api.Program{Name: "p", Body: []api.Stmt{blocks()["else"](s)}}, want, what...)
	}
}

func TestFieldsOfStatements(t *testing.T) {
	set := map[string]func(*api.Stmt){
		"P":    func(s *api.Stmt) { s.P = variable("b") },
		"Name": func(s *api.Stmt) { s.Name = "b" },
		"Down": func(s *api.Stmt) { s.Down = true },
		"More": func(s *api.Stmt) { s.More = true },
		"Body": func(s *api.Stmt) { s.Body = []api.Stmt{{Op: api.StReturn}} },
		"End":  func(s *api.Stmt) { s.End = []string{"n"} },
		"Else": func(s *api.Stmt) { s.Else = []api.Stmt{{Op: api.StReturn}} },
		"End2": func(s *api.Stmt) { s.End2 = []string{"n"} },
	}
	for op := -1; op <= 11; op++ {
		fields, least, most := stmtParts(op)
		known := most >= 0
		wantStmt(t, bareStmt(op), rightIf(known), op)
		s := bareStmt(op)
		s.Marks = marks("s")
		wantStmt(t, s, rightIf(known), op, "Marks")
		for name, set := range set {
			s := bareStmt(op)
			set(&s)
			wantStmt(t, s, rightIf(known && slices.Contains(strings.Fields(fields), name)), op, name)
			s.More = true
			right := op == api.StIf && strings.Contains("More Body End Else End2", name)
			wantStmt(t, s, rightIf(right), op, name, "More")
		}
		for count := range 4 {
			s := bareStmt(op)
			s.E = nil
			for range count {
				s.E = append(s.E, call("f"))
			}
			wantStmt(t, s, rightIf(count >= least && count <= most), op, "E", count)
		}
	}
	for _, op := range []int{math.MinInt, math.MaxInt, 256 + api.StWrite} {
		wantStmt(t, api.Stmt{Op: op, E: []api.Expr{number(1)}}, api.ErrArg, op)
	}
}

// A P that isn't named is zero in all its fields.
func TestPThatIsNotNamed(t *testing.T) {
	for op := api.StSet; op <= api.StReturn; op++ {
		for _, e := range []api.Expr{{}, {L: []api.Expr{}}, {Op: 1}, {N: 1}, {Name: "a"}, {Field: "a"}, {L: []api.Expr{{}}}, number(1)} {
			s := bareStmt(op)
			s.P = e
			zero := e.Op == 0 && e.N == 0 && e.Name+e.Field == "" && len(e.L) == 0
			wantStmt(t, s, rightIf(zero && op != api.StSet && op != api.StRead), op, e)
		}
	}
}

func TestRequiredFieldsOfStatements(t *testing.T) {
	for op := api.StSet; op <= api.StReturn; op++ {
		fields, least, _ := stmtParts(op)
		s := bareStmt(op)
		s.Name = ""
		wantStmt(t, s, rightIf(op != api.StFor), op, "no Name")
		s = bareStmt(op)
		s.P = api.Expr{}
		wantStmt(t, s, rightIf(!strings.Contains(fields, "P")), op, "no P")
		for at := range least {
			s = bareStmt(op)
			s.E[at] = variable("do")
			wantStmt(t, s, api.ErrArg, op, "wrong E", at)
			s.E[at] = number(1)
			wantStmt(t, s, rightIf(op != api.StCall), op, "a number as E", at)
		}
	}
	for op := api.ExInt; op <= api.ExUp; op++ {
		wantStmt(t, api.Stmt{Op: api.StCall, E: []api.Expr{bareOf(op)}}, rightIf(op == api.ExCall), "called", op)
	}
	wantStmt(t, api.Stmt{Op: api.StReturn, E: []api.Expr{number(-1)}}, api.ErrArg)
}

func TestWrongStatementsInBlocks(t *testing.T) {
	for where, block := range blocks() {
		wantStmt(t, block(api.Stmt{Op: api.StReturn}), api.OK, where)
		wantStmt(t, block(api.Stmt{}), api.ErrArg, where)
		wantStmt(t, block(block(api.Stmt{Op: api.StWrite})), api.ErrArg, where)
	}
}

func TestRecords(t *testing.T) {
	with := func(fields ...api.Field) api.Program {
		return api.Program{Name: "p", Recs: []api.Rec{{Name: "r", Fields: fields}}}
	}
	for _, dialect := range dialects {
		wantProgram(t, dialect, with(), api.ErrArg, "no field")
		p := with()
		p.Recs[0].Fields = []api.Field{}
		wantProgram(t, dialect, p, api.ErrArg, "no field")
		for kind := -1; kind <= 5; kind++ {
			wantProgram(t, dialect, with(api.Field{Name: "x", Kind: kind}), rightIf(kind >= 1 && kind <= 3), kind)
			wantProgram(t, dialect, with(api.Field{Name: "x", Kind: 1}, api.Field{Name: "y", Kind: kind}), rightIf(kind >= 1 && kind <= 3), kind)
		}
	}
}

func routinesNamed(names ...string) []api.Routine {
	var list []api.Routine
	for _, name := range names {
		list = append(list, api.Routine{Name: name})
	}
	return list
}

func TestRoutinesOfOneName(t *testing.T) {
	for _, c := range []struct {
		names []string
		right bool
	}{
		{[]string{"f", "g", "h"}, true}, {[]string{"f", "ff", "f_"}, true},
		{[]string{"f", "f"}, false}, {[]string{"f", "g", "f"}, false}, {[]string{"g", "h", "f", "f"}, false},
	} {
		list := routinesNamed(c.names...)
		for _, dialect := range dialects {
			wantProgram(t, dialect, api.Program{Name: "p", Routines: list}, rightIf(c.right), c.names)
		}
		for depth := 2; depth <= api.MaxDepth; depth++ {
			r := onion(depth-1, api.Routine{Name: "i", Inner: list}, routineWithin)
			wantProgram(t, api.Pas, api.Program{Name: "p", Routines: []api.Routine{r}}, rightIf(c.right), c.names, depth)
		}
	}
	for _, c := range []struct {
		names []string
		right bool
	}{
		{[]string{"f", "f$g", "f$f", "g$f", "g"}, true}, {[]string{"f$g", "f", "f$g"}, false}, {[]string{"f$g$h", "f$g", "f$g$h"}, false},
	} {
		wantProgram(t, api.Cee, api.Program{Name: "p", Routines: routinesNamed(c.names...)}, rightIf(c.right), c.names)
	}
	// Lists are each for themselves.
	p := api.Program{Name: "f", Vars: []api.Var{{Name: "f", T: api.Type{Kind: 1}}}, Routines: []api.Routine{{Name: "f", Inner: routinesNamed("f", "g")}, {Name: "g", Inner: routinesNamed("f", "g")}}}
	wantProgram(t, api.Pas, p, api.OK)
}

// The rule is of routines: of records, fields, variables and parameters layers 10 and 11 tell none, so what they read must be right; layer 12 tells these.
func TestOthersOfOneName(t *testing.T) {
	typ := api.Type{Kind: api.KindInt}
	rec := api.Rec{Name: "r", Fields: []api.Field{{Name: "x", Kind: 1}, {Name: "x", Kind: 2}}}
	v := []api.Var{{Name: "v", T: typ}, {Name: "v", T: typ}}
	p := api.Program{Name: "p", Recs: []api.Rec{rec, rec}, Vars: v, Routines: []api.Routine{{Name: "f", Params: []api.Param{{Name: "v", T: typ}, {Name: "v", T: typ}}, Vars: v}}}
	for _, dialect := range dialects {
		wantProgram(t, dialect, p, api.OK)
	}
}

func many[T any](n int, one func(i int) T) []T {
	var list []T
	for i := range n {
		list = append(list, one(i))
	}
	return list
}

func TestLongLists(t *testing.T) {
	typ := api.Type{Kind: api.KindInt}
	name := func(i int) string { return "a" + strconv.Itoa(i) }
	v := func(i int) api.Var { return api.Var{Name: name(i), T: typ} }
	param := func(mode int) func(int) api.Param {
		return func(i int) api.Param { return api.Param{Name: name(i), T: typ, Mode: mode} }
	}
	stmt := func(int) api.Stmt { return api.Stmt{Op: api.StReturn} }
	routine := func(i int) api.Routine { return api.Routine{Name: name(i)} }
	one := []api.Expr{number(1)}
	of := func(r api.Routine) api.Program { return api.Program{Name: "p", Routines: []api.Routine{r}} }
	does := func(s api.Stmt) api.Program { return api.Program{Name: "p", Body: []api.Stmt{s}} }
	for _, n := range []int{api.MaxItems - 1, api.MaxItems, api.MaxItems + 1, 2 * api.MaxItems} {
		want := rightIf(n <= api.MaxItems)
		both := map[string]api.Program{
			"records": {Name: "p", Recs: many(n, func(i int) api.Rec {
				return api.Rec{Name: name(i), Fields: []api.Field{{Name: "x", Kind: 1}}}
			})},
			"fields": {Name: "p", Recs: []api.Rec{{Name: "r", Fields: many(n, func(i int) api.Field { return api.Field{Name: name(i), Kind: 1} })}}},
			"vars":   {Name: "p", Vars: many(n, v)}, "routines": {Name: "p", Routines: many(n, routine)}, "body": {Name: "p", Body: many(n, stmt)},
			"params": of(api.Routine{Name: "f", Params: many(n, param(api.ByValue))}), "locals": of(api.Routine{Name: "f", Vars: many(n, v)}), "its body": of(api.Routine{Name: "f", Body: many(n, stmt)}),
			"if": does(api.Stmt{Op: api.StIf, E: one, Body: many(n, stmt)}), "else": does(api.Stmt{Op: api.StIf, E: one, More: true, Else: many(n, stmt)}),
			"while": does(api.Stmt{Op: api.StWhile, E: one, Body: many(n, stmt)}), "repeat": does(api.Stmt{Op: api.StRepeat, E: one, Body: many(n, stmt)}),
			"operands": does(api.Stmt{Op: api.StWrite, E: []api.Expr{call("f", many(n, func(i int) api.Expr { return number(int64(i)) })...)}}),
		}
		for where, p := range both {
			for _, dialect := range dialects {
				wantProgram(t, dialect, p, want, where, n)
			}
		}
		wantProgram(t, api.Pas, of(api.Routine{Name: "f", Inner: many(n, routine)}), want, "inner", n)
		wantProgram(t, api.Cee, of(api.Routine{Name: "f", Params: many(n, param(api.ByUp))}), want, "ups", n)
		for ahead := range 3 {
			operands := many(n, func(i int) api.Expr {
				if i < ahead {
					return number(1)
				}
				return up("a")
			})
			wantExpr(t, api.Cee, call("f", operands...), want, "ups", n)
		}
		half := many(n, func(i int) api.Expr {
			if i < n/2 {
				return number(1)
			}
			return up("a")
		})
		wantExpr(t, api.Cee, call("f", half...), want, "half of them ups", n)
	}
}

func TestCheckChangesNothing(t *testing.T) {
	for _, p := range []api.Program{program(), nested(), lifted()} {
		before := copyOf(p)
		for _, dialect := range append(dialects, noDialects...) {
			Check(dialect, p)
			CheckExpr(dialect, p.Body[0].E[0])
		}
		if !reflect.DeepEqual(p, before) {
			t.Error("the program was changed")
		}
	}
}
