package check

import (
	"math"
	"math/rand"
	"reflect"
	"strconv"
	"strings"
	"testing"

	"pantograph/api"
)

func name(i int) string { return "n" + strconv.Itoa(i) }

// wantEnd is for trees of which nothing but that the call ends, and that they stay as they are, is promised.
func wantEnd(t *testing.T, p api.Program, about ...any) {
	t.Helper()
	kept := copyOf(p)
	if i, e := Check(p); e == api.OK && i != 0 || i < 0 || e != api.OK && i >= Count(p) {
		t.Fatal(i, e, about)
	}
	Ends(p.Body)
	if !reflect.DeepEqual(p, kept) {
		t.Fatal("changed", about)
	}
}

// Each single value of a tree becomes another one, each list a shorter one, none, or a longer one.
func TestTreesThatAreNotRight(t *testing.T) {
	t.Parallel()
	p := read(t, whole(ordinary))
	places := 0
	eachValue("", reflect.ValueOf(&p), func(string, reflect.Value) { places++ })
	for at := range places {
		for way := range 6 {
			q, n := copyOf(p), 0
			eachValue("", reflect.ValueOf(&q), func(_ string, v reflect.Value) {
				if n++; n == at+1 {
					spoil(v, way)
				}
			})
			wantEnd(t, q, at, way)
		}
	}
}

func spoil(v reflect.Value, way int) {
	switch v.Kind() {
	case reflect.Int, reflect.Int64:
		v.SetInt([]int64{0, -1, 1, 7, math.MaxInt64, math.MinInt64}[way])
	case reflect.String:
		v.SetString([]string{"", "n", "\xff", "begin", "a$b", strings.Repeat("n", 99)}[way])
	case reflect.Bool:
		v.SetBool(way%2 == 0)
	case reflect.Slice:
		switch n := v.Len(); {
		case way == 0 || n == 0:
			v.SetZero()
		case way == 1:
			v.SetLen(0)
		case way == 2:
			v.SetLen(n - 1)
		case way == 3:
			v.Set(reflect.AppendSlice(v, v))
		default:
			v.Set(reflect.Append(v, reflect.Zero(v.Type().Elem())))
		}
	}
}

// wild is a tree of which nothing is right.
type wild struct{ *rand.Rand }

func (w wild) number() int {
	if w.Intn(20) == 0 {
		return []int{math.MinInt, math.MaxInt, -1, 1 << 40}[w.Intn(4)]
	}
	return w.Intn(27) - 1
}

func (w wild) fill(v reflect.Value, depth int) {
	switch v.Kind() {
	case reflect.Struct:
		for i := range v.NumField() {
			w.fill(v.Field(i), depth)
		}
	case reflect.Int, reflect.Int64:
		v.SetInt(int64(w.number()))
	case reflect.String:
		v.SetString([]string{"", "a", "b", "c", "\x00", "a$b"}[w.Intn(6)])
	case reflect.Bool:
		v.SetBool(w.Intn(2) == 0)
	case reflect.Slice:
		if depth == 0 {
			return
		}
		v.Set(reflect.MakeSlice(v.Type(), w.Intn(4), 4))
		for i := range v.Len() {
			w.fill(v.Index(i), depth-1)
		}
	}
}

func TestTreesOfAnyKind(t *testing.T) {
	t.Parallel()
	w := wild{rand.New(rand.NewSource(1))}
	for n := range 5000 {
		var p api.Program
		w.fill(reflect.ValueOf(&p).Elem(), n%4+1)
		wantEnd(t, p, n)
	}
}

func number(n int64) api.Expr { return api.Expr{Op: api.ExInt, N: n} }

func use(name string) api.Expr { return api.Expr{Op: api.ExVar, Name: name} }

func nestedExpr(depth int, within func(api.Expr) api.Expr) api.Expr {
	e := number(1)
	for range depth {
		e = within(e)
	}
	return e
}

// As deep as the bound is: of each way in which parts stand within one another the innermost one is wrong, and then it isn't.
func TestDeepExpressions(t *testing.T) {
	const depth = 1<<16 - 2
	p := read(t, whole("var a : array[3] of integer; function f(k : integer) : integer; begin return k; end; |"))
	for _, within := range []func(api.Expr) api.Expr{
		func(e api.Expr) api.Expr { return api.Expr{Op: api.ExNeg, L: []api.Expr{e}} },
		func(e api.Expr) api.Expr { return api.Expr{Op: api.ExAdd, L: []api.Expr{e, number(1)}} },
		func(e api.Expr) api.Expr { return api.Expr{Op: api.ExMul, L: []api.Expr{number(1), e}} },
		func(e api.Expr) api.Expr { return api.Expr{Op: api.ExIndex, Name: "a", L: []api.Expr{e}} },
		func(e api.Expr) api.Expr { return api.Expr{Op: api.ExCall, Name: "f", L: []api.Expr{e}} },
	} {
		p.Body = []api.Stmt{{Op: api.StReturn}, {Op: api.StWrite, E: []api.Expr{nestedExpr(depth, within)}}}
		if i, e := Check(p); i != 0 || e != api.OK {
			t.Fatal(i, e)
		}
		innermost := &p.Body[1].E[0]
		for len(innermost.L) > 0 {
			if last := &innermost.L[len(innermost.L)-1]; len(last.L) > 0 {
				innermost = last
				continue
			}
			innermost = &innermost.L[0]
		}
		innermost.Op = api.ExBool
		if i, e := Check(p); i != 4 || e != api.ErrType {
			t.Fatal(i, e)
		}
	}
}

func TestDeepStatements(t *testing.T) {
	const depth = 1<<16 - 2
	for _, inElse := range []bool{false, true} {
		for _, op := range []int{api.StIf, api.StWhile, api.StRepeat} {
			innermost := []api.Stmt{{Op: api.StReturn}}
			l := innermost
			for range depth {
				s := api.Stmt{Op: op, E: []api.Expr{{Op: api.ExBool}}, Body: l}
				if inElse && op == api.StIf {
					s.More, s.Body, s.Else = true, nil, l
				}
				l = []api.Stmt{s}
			}
			p := api.Program{Name: "p", Body: l}
			if i, e := Check(p); i != 0 || e != api.OK || Count(p) != depth+1 {
				t.Fatal(i, e, Count(p))
			}
			if Ends(l) {
				t.Fatal("a body that may not be done is no end")
			}
			innermost[0].E = []api.Expr{number(1)}
			if i, e := Check(p); i != depth || e != api.ErrReturn {
				t.Fatal(i, e)
			}
		}
	}
}

func TestEndsOfDeepLists(t *testing.T) {
	value := []api.Stmt{{Op: api.StReturn}}
	for _, innermost := range [][]api.Stmt{value, nil} {
		l := innermost
		for i := range 1<<16 - 2 {
			s := api.Stmt{Op: api.StIf, More: true, Body: value, Else: l}
			if i%2 == 0 {
				s.Body, s.Else = l, value
			}
			l = []api.Stmt{s}
		}
		if Ends(l) != (innermost != nil) {
			t.Fatal(!Ends(l))
		}
	}
}

// Each routine has what those around it have in sight; each calls the outermost one and names the outermost variable.
func TestDeepRoutines(t *testing.T) {
	const depth = 1<<16 - 4
	body := []api.Stmt{
		{Op: api.StSet, P: use("v"), E: []api.Expr{use("v")}},
		{Op: api.StCall, E: []api.Expr{{Op: api.ExCall, Name: name(depth - 1), L: []api.Expr{use("v")}}}},
	}
	one := api.Type{Kind: api.KindInt}
	var l []api.Routine
	for i := range depth {
		l = []api.Routine{{Name: name(i), Params: []api.Param{{Name: "p" + name(i), T: one}}, Vars: []api.Var{{Name: "v" + name(i), T: one}}, Inner: l, Body: body}}
	}
	p := api.Program{Name: "p", Vars: []api.Var{{Name: "v", T: one}}, Routines: l}
	if i, e := Check(p); i != 0 || e != api.OK || Count(p) != 1+4*depth {
		t.Fatal(i, e, Count(p))
	}
	innermost := &l[0]
	for len(innermost.Inner) > 0 {
		innermost = &innermost.Inner[0]
	}
	for _, taken := range []string{"v", name(depth - 1), "v" + name(depth-1), "p" + name(1)} {
		innermost.Vars[0].Name = taken
		if i, e := Check(p); i != 2*depth || e != api.ErrTwice {
			t.Fatal(taken, i, e)
		}
	}
}

// More than a text may hold: no name is looked for from end to end.
func TestLongLists(t *testing.T) {
	t.Parallel()
	const many = 1 << 16
	one := api.Type{Kind: api.KindInt}
	p := api.Program{Recs: []api.Rec{{Name: "r"}}}
	for i := range many {
		p.Recs = append(p.Recs, api.Rec{Name: "r" + name(i)})
		p.Recs[0].Fields = append(p.Recs[0].Fields, api.Field{Name: name(i), Kind: api.KindInt})
		p.Vars = append(p.Vars, api.Var{Name: "v" + name(i), T: api.Type{Kind: api.KindRec, Name: "r"}})
		p.Routines = append(p.Routines, api.Routine{Name: name(i)})
		p.Body = append(p.Body, api.Stmt{Op: api.StRead, P: api.Expr{Op: api.ExField, Name: "v" + name(i), Field: name(many - 1)}}, api.Stmt{Op: api.StCall, E: []api.Expr{{Op: api.ExCall, Name: name(many - 1 - i)}}})
		p.Routines[0].Params = append(p.Routines[0].Params, api.Param{Name: "p" + name(i), T: one})
	}
	p.Routines[0].Name = "f"
	p.Body[len(p.Body)-1] = api.Stmt{Op: api.StReturn}
	if i, e := Check(p); i != 0 || e != api.OK || Count(p) != 5*many+1 {
		t.Fatal(i, e, Count(p))
	}
	p.Body[len(p.Body)-1].E = []api.Expr{number(1)}
	if i, e := Check(p); i != 5*many || e != api.ErrReturn {
		t.Fatal(i, e)
	}
	for i := range p.Routines {
		p.Routines[i].Name = "f"
	}
	wantEnd(t, p)
}

// As many as a list may hold, and as deep as a program may be: what is right of Pas at its largest.
func TestLargestPrograms(t *testing.T) {
	var s strings.Builder
	for i := range api.MaxItems {
		s.WriteString("type r" + strconv.Itoa(i) + " = record a : char; end;\n")
	}
	for i := range api.MaxItems {
		s.WriteString("var v" + strconv.Itoa(i) + " : r" + strconv.Itoa(i) + ";\n")
	}
	for i := range 500 {
		s.WriteString("procedure f" + strconv.Itoa(i) + "; begin f" + strconv.Itoa(499-i) + "(); end;\n")
	}
	wantTexts(t, s.String()+"| v511.a := 'a';", s.String()+"| {type} v511.a := 1;", s.String()+"{twice} procedure r511; begin end; | nope();")
	ahead := strings.Repeat("if true then begin ", api.MaxDepth-1)
	wantTexts(t, "| "+ahead+"{none} nope();"+strings.Repeat(" end;", api.MaxDepth-1)+" nope();")
	var headings string
	for i := range api.MaxDepth {
		headings += "procedure f" + strconv.Itoa(i) + "(a" + strconv.Itoa(i) + " : integer); "
	}
	const around = "begin f0(a0); end; "
	behind := strings.Repeat(around, api.MaxDepth-1)
	wantTexts(t,
		headings+around+behind,
		headings+"{none} var x : r; "+around+behind,
		headings+"begin f47(a47 + a46); {none} f48(); end; "+behind,
		headings+around+strings.TrimSuffix(behind, around)+"begin {none} f2(a1); end; ")
}

// No rule tells of routines of one list that have one name (a text with them isn't read); they are looked at like all others.
func TestRoutinesOfOneListThatHaveOneName(t *testing.T) {
	for _, s := range []string{
		"procedure f; begin end; procedure g; begin g(); end; procedure h; begin g(); end; | f(); g();",
		"procedure f; procedure f1; begin end; procedure g; begin g(); end; procedure h; begin g(); end; begin g(); end; |",
		"procedure f; begin end; procedure g; begin g(); end; procedure h; begin {none} f1(); end; | f(); g();",
		"procedure f; begin end; procedure g; {twice} procedure f; begin end; begin end; procedure h; begin end; |",
		"procedure f; procedure f1; begin end; procedure g; {twice} procedure f; begin end; begin end; procedure h; begin end; begin end; |",
	} {
		p := read(t, whole(s))
		item, e := marked(t, whole(s))
		wantProgram(t, renamed(p, func(s string) string {
			if s == "h" {
				return "g"
			}
			return s
		}), item, e, s)
	}
}
