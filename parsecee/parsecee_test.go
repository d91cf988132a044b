package parsecee

import (
	"strconv"
	"strings"
	"testing"

	"pantograph/api"
	"pantograph/exprcee"
	"pantograph/text"
	"pantograph/tree"
)

func number(n int64) api.Expr       { return api.Expr{Op: api.ExInt, N: n} }
func variable(name string) api.Expr { return api.Expr{Op: api.ExVar, Name: name} }
func call(name string, l ...api.Expr) api.Expr {
	return api.Expr{Op: api.ExCall, Name: name, L: l}
}
func up(name string) api.Expr           { return api.Expr{Op: api.ExUp, Name: name} }
func op(of int, l ...api.Expr) api.Expr { return api.Expr{Op: of, L: l} }

func before(l ...string) api.Marks { return api.Marks{Before: l} }
func trail(l ...string) api.Marks  { return api.Marks{Trail: l} }

// written is put(n), as short a statement as there is with something in it.
func written(n int64) api.Stmt { return api.Stmt{Op: api.StWrite, E: []api.Expr{number(n)}} }

func marked(m api.Marks, s api.Stmt) api.Stmt {
	s.Marks = m
	return s
}

func programOf(body ...api.Stmt) api.Program { return api.Program{Name: "p", Body: body} }

// wantRead is P11.1 and P11.2 of a text that is read.
func wantRead(t *testing.T, s string, want api.Program) {
	t.Helper()
	got, d := Read(s)
	if d != (api.Diag{}) {
		t.Fatalf("Read(%.300q): %v", s, d)
	}
	if !tree.Same(got, want) {
		t.Fatalf("Read(%.300q) = %+v, want %+v", s, got, want)
	}
	if tree.Check(api.Cee, got) != api.OK {
		t.Fatalf("Read(%.300q) = %+v isn't right of Cee", s, got)
	}
	if at := Items(s); len(at) != itemsOf(got) {
		t.Fatalf("Items(%.300q) = %v, want %d of them", s, at, itemsOf(got))
	}
}

// wantBody reads a program with that body.
func wantBody(t *testing.T, body string, want ...api.Stmt) {
	t.Helper()
	wantRead(t, "program p; main { "+body+" }", programOf(want...))
}

// wantUnread: in s a ^ stands ahead of the place that is to be told.
func wantUnread(t *testing.T, s string, code api.Errno) {
	t.Helper()
	at := strings.Index(s, "^")
	if at < 0 || strings.Count(s, "^") != 1 {
		t.Fatalf("%.300q: no place", s)
	}
	s = s[:at] + s[at+1:]
	got, d := Read(s)
	if want := (api.Diag{Code: code, Pos: text.At(s, at)}); d != want || !tree.Same(got, api.Program{}) {
		t.Fatalf("Read(%.300q) = %+v, %v, want %v alone", s, got, d, want)
	}
	if l := Items(s); len(l) != 0 {
		t.Fatalf("Items(%.300q) = %v", s, l)
	}
}

// wantUnreadBehind reads texts with that ahead of each.
func wantUnreadBehind(t *testing.T, ahead string, code api.Errno, some ...string) {
	t.Helper()
	for _, s := range some {
		wantUnread(t, ahead+s, code)
	}
}

func itemsOf(p api.Program) int {
	n := len(p.Recs) + len(p.Vars) + itemsOfStmts(p.Body)
	for _, r := range p.Routines {
		n += 1 + len(r.Vars) + itemsOfStmts(r.Body)
	}
	return n
}

func itemsOfStmts(l []api.Stmt) (n int) {
	for _, s := range l {
		n += 1 + itemsOfStmts(s.Body) + itemsOfStmts(s.Else)
	}
	return n
}

func TestChaptersExample(t *testing.T) {
	wantRead(t, "program p; main { put(1); /*a*/ }", programOf(marked(trail("a"), written(1))))
}

func TestNothingButAName(t *testing.T) {
	for _, s := range []string{"program p; main { }", "program p;main{}", "\n program\tp\r\n;\nmain {\n}\n", "program p ; main { } "} {
		wantRead(t, s, api.Program{Name: "p"})
	}
	wantRead(t, "program "+strings.Repeat("a", api.MaxName)+"; main { }", api.Program{Name: strings.Repeat("a", api.MaxName)})
	wantUnreadBehind(t, "", api.ErrToken,
		"^", "  \n ^", "^main { }", "^p", "^;", "^'p'", "^1", "^{", "program^", "program ^;", "program ^main", "program ^1;", "program p^", "program p ^main { }", "program p ^.", "program p ^q;", "program p ^{",
		"program p; ^", "program p; ^}", "program p; ^;", "program p; ^{ }", "program p; ^program q;", "program p; main^", "program p; main ^;", "program p; main ^( )", "program p; main ^main", "program p; main {^", "program p; main { ^{ }",
		"program p; main { } ^}", "program p; main { } ^main", "program p; main { } ^;", "program p; main { } ^x", "program p; main { } ^1", "program p; main { } ^'a'", "program p; main { } /*a*/ ^program", "program p; main { } /*a*//*b*/ ^; /*c*/",
		"program ^program; main { }", "program ^int; main { }", "program p; main { } ^void f() { }", "program p; main { } ^int x;", "program p; ^put(1);", "program p; ^if", "program p; ^up", "program p; ^&",
	)
}

func TestLayer6sDiags(t *testing.T) {
	for s, code := range map[string]api.Errno{
		"program p; main { } ^?": api.ErrByte, "^? program": api.ErrByte, "^Program p; main { }": api.ErrByte, "program p; main { x ^: = 1; }": api.ErrByte, "main ^'": api.ErrQuote, "program p; main { ^'\\n' = 1; }": api.ErrQuote, "program p; main { } ^/*a": api.ErrNote, "^/*a\\b*/ program": api.ErrNote,
		"program p; main { x = ^9223372036854775808; }": api.ErrNumber, "program p; int a[^9223372036854775808];": api.ErrNumber,
		"program p; main { " + "^" + strings.Repeat("x", api.MaxName+1) + " = 1; }": api.ErrLong, "program p; void ^f$" + strings.Repeat("x", api.MaxName+1) + "() { } main { }": api.ErrLong,
		"program p; main { } ^/*" + strings.Repeat("x", api.MaxNote+1) + "*/": api.ErrLong, "^program p; main { }" + strings.Repeat(" ", api.MaxText): api.ErrLong,
		// ahead of all that the tokens would tell
		"} ^?": api.ErrByte, "program p; int a[99] ^\x00": api.ErrByte, "program p; /*a*/ void f(); ^'": api.ErrQuote, "program p$q; main { ^\"": api.ErrByte, "program p; void f$int(); ^#": api.ErrByte, "program p; main { f ^$g(); }": api.ErrByte,
	} {
		wantUnread(t, s, code)
	}
}

// eachStatement is one of each form.
func eachStatement() []struct {
	s    string
	want api.Stmt
} {
	a, i := variable("a"), api.Expr{Op: api.ExIndex, Name: "a", L: []api.Expr{number(1)}}
	field := api.Expr{Op: api.ExField, Name: "a", Field: "b"}
	one := []api.Stmt{written(1)}
	stmt := func(of int, e ...api.Expr) api.Stmt { return api.Stmt{Op: of, E: e} }
	with := func(s api.Stmt, body ...api.Stmt) api.Stmt {
		s.Body = body
		return s
	}
	set := func(p, e api.Expr) api.Stmt { return api.Stmt{Op: api.StSet, P: p, E: []api.Expr{e}} }
	more := func(s api.Stmt, other ...api.Stmt) api.Stmt {
		s.More, s.Else = true, other
		return s
	}
	less, not := op(api.ExLt, a, number(1)), op(api.ExNot, a)
	counted := api.Stmt{Op: api.StFor, Name: "k", E: []api.Expr{number(1), op(api.ExAdd, a, number(2))}}
	down := counted
	down.Down = true
	return []struct {
		s    string
		want api.Stmt
	}{
		{"a = 1;", set(a, number(1))}, {"a[1] = a;", set(i, a)},
		{"a.b = -a == 'c';", set(field, op(api.ExEq, op(api.ExNeg, a), api.Expr{Op: api.ExChar, N: 'c'}))},
		{"f();", stmt(api.StCall, call("f"))}, {"f(a, a[1]);", stmt(api.StCall, call("f", a, i))},
		{"f$g$h(a, up b, up c);", stmt(api.StCall, call("f$g$h", a, up("b"), up("c")))}, {"f$g(up b);", stmt(api.StCall, call("f$g", up("b")))}, {"a = f$g();", set(a, call("f$g"))},
		{"if (a) { put(1); }", with(stmt(api.StIf, a), one...)}, {"if (a) { }", stmt(api.StIf, a)}, {"if ((a)) { }", stmt(api.StIf, a)},
		{"if (a) { } else { }", more(stmt(api.StIf, a))},
		{"if (a) { put(1); } else { put(2); put(3); }", more(with(stmt(api.StIf, a), one...), written(2), written(3))},
		{"while (a < 1) { put(1); }", with(stmt(api.StWhile, less), one...)}, {"while (a < 1) { }", stmt(api.StWhile, less)},
		{"do { } until (!a);", stmt(api.StRepeat, not)}, {"do { put(1); put(2); } until (!a);", with(stmt(api.StRepeat, not), written(1), written(2))},
		{"for (k = 1 to a + 2) { put(1); }", with(counted, one...)}, {"for (k = 1 downto a + 2) { }", down},
		{"get(a);", api.Stmt{Op: api.StRead, P: a}}, {"get(a[1]);", api.Stmt{Op: api.StRead, P: i}}, {"get(a.b);", api.Stmt{Op: api.StRead, P: field}},
		{"put(1);", written(1)}, {"put(f());", stmt(api.StWrite, call("f"))}, {"put((a));", stmt(api.StWrite, a)},
		{"return;", api.Stmt{Op: api.StReturn}}, {"return a;", stmt(api.StReturn, a)}, {"return (a);", stmt(api.StReturn, a)},
	}
}

func TestEachStatement(t *testing.T) {
	a := variable("a")
	for _, x := range eachStatement() {
		wantBody(t, x.s, x.want)
		wantBody(t, strings.ReplaceAll(x.s, "'c'", `'\x63'`), x.want)
		wantBody(t, strings.NewReplacer(" ", "\n ", "(", " ( ", ")", "\n)", ";", " ;", "[", " [\t").Replace(x.s), x.want)
		wantBody(t, x.s+x.s, x.want, x.want)
		two := []api.Stmt{x.want, written(7)}
		s := x.s + " put(7);"
		wantBody(t, "if (a) { "+s+" }", api.Stmt{Op: api.StIf, E: []api.Expr{a}, Body: two})
		wantBody(t, "if (a) { } else { "+s+" }", api.Stmt{Op: api.StIf, E: []api.Expr{a}, More: true, Else: two})
		wantBody(t, "while (a) { "+s+" }", api.Stmt{Op: api.StWhile, E: []api.Expr{a}, Body: two})
		wantBody(t, "do { "+s+" } until (a);", api.Stmt{Op: api.StRepeat, E: []api.Expr{a}, Body: two})
		wantBody(t, "for (k = 1 to 2) { "+s+" }", api.Stmt{Op: api.StFor, Name: "k", E: []api.Expr{number(1), number(2)}, Body: two})
		r := api.Routine{Name: "f", Body: two}
		wantRead(t, "program p; void f() { "+s+" } main { "+s+" }", api.Program{Name: "p", Routines: []api.Routine{r}, Body: two})
		r.Vars = []api.Var{{Name: "v", T: api.Type{Kind: api.KindRec, Name: "r"}}}
		wantRead(t, "program p; void f() { r v; "+s+" } main { }", api.Program{Name: "p", Routines: []api.Routine{r}})
	}
}

func TestWrongStatements(t *testing.T) {
	for _, s := range []string{
		"a^;", "a ^== 1;", "a = ^;", "a = ^}", "a = 1 ^}", "a = 1 ^b = 2;", "a = 1 ^= 2;", "a[1]^;", "a[1] ^f();", "a.b ^.c = 1;", "a[1] ^[2] = 1;", "a.^1 = 1;", "a ^}", "a ^", "^1 = a;", "^(a) = 1;", "^-a = 1;", "^true = 1;", "^'a' = 1;", "a ^+ 1 = 2;", "^!a;", "a ^b;", "r ^x;", "a ^&& b;",
		"f() ^= 1;", "f(1) ^== 1;", "f() ^+ 1;", "f() ^}", "f() ^g();", "f() ^. a = 1;", "f(1^;", "f(^;", "f(1,^);", "f ^;", "^;", "put(1);^;", "^= 1;", "f() ^() ;", "f(up ^);", "f(up a, ^b);", "f(up a^[1]);", "f(^&a);", "f$g() ^= 1;", "f$g(1) ^", "f(up ^1);",
		"if ^a { }", "if (^) { }", "if (a ^{ }", "if (a) ^put(1);", "if (a) ^}", "if (a) { ^else { }", "if (a) { } else ^put(1);", "if (a) { } else ^if (a) { }", "if (a) { }^; else { }", "if (a) { } else { } ^else { }", "if (a) { put(1) ^}", "if^", "if (^", "if (a^", "if (a)^", "if (a) {^", "if (a) { } else^", "if (a ^= 1) { }", "if (a) ^then { }", "if ^{ }",
		"while ^a { }", "while (a ^{ }", "while (a) ^put(1);", "while (a) ^do { }", "while (a) { } ^until", "while (a) { ^until (a);", "while (a) { }^;", "while (a) { ^{ }", "while (a)^;", "while (^) { }",
		"do ^put(1); until (a);", "do { } ^;", "do { } ^while (a);", "do { put(1) ^} until (a);", "do { } until ^a;", "do { } until (^);", "do { } until (a) ^}", "do^", "do {^", "do { }^", "do { } until^", "do { } until (a)^", "do ^(a) { }", "do { ^until (a);",
		"for ^k = 1 to 2 { }", "for (^1 = 1 to 2) { }", "for (k ^== 1 to 2) { }", "for (k^[1] = 1 to 2) { }", "for (k = ^to 2) { }", "for (k = 1 ^2) { }", "for (k = 1 ^) { }", "for (k = 1^; to 2) { }", "for (k = 1 to ^) { }", "for (k = 1 to 2 ^{ }", "for (k = 1 to 2) ^put(1);", "for (k = 1 to 2 ^to 3) { }", "for (k = 1 to 2) { }^;", "for (^to = 1 to 2) { }", "for (^int k = 1 to 2) { }", "for^", "for (^", "for (k = 1 downto 2^", "for (k = 1 downto 2)^",
		"get ^a;", "get(^);", "get(^1);", "get(^(a));", "get(a ^+ 1);", "get(a^, a);", "get(a^;", "get(a.b ^.c);", "get^;", "get(^-a);", "get(a) ^}", "get(^true);", "get(^&a);", "get(a)^",
		"put ^1;", "put(^);", "put(1^, 2);", "put(1^;", "put(1) ^}", "put^", "put(1^]", "put(^up a);", "put(1)^",
		"return ^}", "return a ^b;", "return ^return;", "return^", "return (a^;", "return 1^", "return ^= 1;", "return ^int;",
		"^{ }", "^else;", "^until (a);", "^to", "^program", "^struct", "^int a;", "^int f() { }", "^void f();", "^main", "^up a;", "^'a';", "^1;", "^,", "^)", "^]", "^bool", "^char c;", "^&a = 1;", "^downto", "put(1); ^int a;", "put(1); ^void", "f(); r ^x;",
	} {
		wantUnread(t, "program p; main { "+s, api.ErrToken)
		wantUnread(t, "program p; char f() { put(1); "+s, api.ErrToken)
		wantUnread(t, "program p; main { while (a) { do { put(1); if (a) { } else { "+s, api.ErrToken)
	}
}

// What Parse and Named tell of an operand is told as they tell it.
func TestFaultsOfOperands(t *testing.T) {
	deep := strings.Repeat("!", api.MaxDepth)
	long := "f(" + strings.TrimSuffix(strings.Repeat("1,", api.MaxItems+1), ",") + ")"
	for _, around := range []string{"a = ~;", "put(~);", "return ~;", "if (~) { }", "while (~) { }", "do { } until (~);", "for (k = ~ to 2) { }", "for (k = 1 downto ~) { }"} {
		in := func(s string) string { return "program p;\nmain { " + strings.Replace(around, "~", s, 1) + " }" }
		wantUnread(t, in("^"+deep+"a"), api.ErrDeep)
		wantUnread(t, in("^"+long), api.ErrLong)
		wantUnread(t, in("^1 + "+long), api.ErrLong)
		wantUnread(t, in("^"+deep+long), api.ErrLong)
		wantUnread(t, in("a + ^* b"), api.ErrToken)
		wantUnread(t, in("a + ^/*n*/ b"), api.ErrPlace)
		wantUnread(t, in("a[1^, 2]"), api.ErrToken)
		wantUnread(t, in("f(1, ^)"), api.ErrToken)
		wantUnread(t, in("f(up a, ^1)"), api.ErrToken)
		wantUnread(t, in("a + ^f$g"), api.ErrName)
		wantUnread(t, in("(^f$g"), api.ErrName)
		wantUnread(t, in("f(up ^f$g, )"), api.ErrName)
		wantUnread(t, in("a.^f$g"), api.ErrName)
		wantUnread(t, in("(a ^= c)"), api.ErrToken)
		if _, d := Read(in(deep[1:] + "a")); d != (api.Diag{}) {
			t.Fatal(around, d)
		}
	}
	for _, s := range []string{"^f(" + deep + "a);", "^a[" + deep + "a] = 1;", "get(^a[" + deep + "a]);", "get(^f(" + deep + "a));"} {
		wantUnread(t, "program p; main { "+s+" }", api.ErrDeep)
	}
	for _, s := range []string{"^" + long + ";", "^f(" + long + ");", "^a[" + long + "] = 1;", "get(^a[" + long + "]);", "get(^" + long + ");", "^" + long + " = 1;"} {
		wantUnread(t, "program p; main { "+s+" }", api.ErrLong)
	}
	wantUnread(t, "program p; main { a[^/*n*/ 1] = 2;", api.ErrPlace)
	wantUnread(t, "program p; main { f(1^/*n*/);", api.ErrPlace)
}

func TestWhatIsReadIsTheExpression(t *testing.T) {
	for _, s := range []string{"1 + 2 * a", "(a == b) != (c || d)", "f(-a, !b[1], c.d)", "a && b & c", "f$g(1, up a, up b) - -1"} {
		want, d := exprcee.Read(s)
		if d.Code != api.OK {
			t.Fatal(d)
		}
		wantBody(t, "put("+s+");", api.Stmt{Op: api.StWrite, E: []api.Expr{want}})
	}
}

func TestCallWhereAPlaceIsAskedFor(t *testing.T) {
	wantUnreadBehind(t, "program p; main { ", api.ErrToken,
		"get(^f());", "get(^f(1, a));", "get( \n ^f());", "get(^f()", "get(^f() + 1);", "get(^f(read1));", "get(^f();", "get(^f() /*n*/);", "get(^f(f(f())));", "get(^f$g());", "get(^f(up a));",
		// What is wrong within the call is met ahead of its end.
		"get(f(^", "get(f(1 ^2));", "get(f(^,1));", "get(f(^*));",
		"f(1, 2) ^= 3; }", "f$g(up a) ^= 3; }",
	)
	wantUnread(t, "program p; main { get(f(^/*n*/));", api.ErrPlace)
	wantUnread(t, "program p; main { get(f(^a$b));", api.ErrName)
	wantUnread(t, "program p; main { f(1, 2)\n^/*n*/ = 3; }", api.ErrPlace)
}

func TestRecords(t *testing.T) {
	field := func(name string, kind int) api.Field { return api.Field{Name: name, Kind: kind} }
	r := func(l ...api.Rec) api.Program { return api.Program{Name: "p", Recs: l} }
	tail := " main { }"
	wantRead(t, "program p; struct r { int x; };"+tail, r(api.Rec{Name: "r", Fields: []api.Field{field("x", api.KindInt)}}))
	three := []api.Field{field("x", api.KindInt), field("y", api.KindBool), field("z", api.KindChar)}
	wantRead(t, "program p; struct r { int x; bool y; char z; };"+tail, r(api.Rec{Name: "r", Fields: three}))
	wantRead(t, "program p; struct r{int x;bool\ny\n;char z;}\n;"+tail, r(api.Rec{Name: "r", Fields: three}))
	// Names that are there already are no matter of this layer.
	wantRead(t, "program p; struct p { char p; char p; }; struct p { int x; };"+tail,
		r(api.Rec{Name: "p", Fields: []api.Field{field("p", api.KindChar), field("p", api.KindChar)}}, api.Rec{Name: "p", Fields: three[:1]}))
	wantRead(t, "program p;\n/*a*//*b*/ struct r { /*c*/\n/*d*/ int x; /*e*/ /*f*/\n/*g*/\nbool y; char z;\n/*h*/ /*i*/ }; /*j*/ /*k*/\n/*l*/ main { }", api.Program{Name: "p", Mid: []string{"l"}, Recs: []api.Rec{{
		Marks: api.Marks{Before: []string{"a", "b"}, Trail: []string{"j", "k"}}, Name: "r", End: []string{"h", "i"},
		Fields: []api.Field{{Marks: api.Marks{Before: []string{"c", "d"}, Trail: []string{"e", "f"}}, Name: "x", Kind: api.KindInt}, {Marks: before("g"), Name: "y", Kind: api.KindBool}, three[2]}}}})
	wantUnreadBehind(t, "program p; ", api.ErrToken,
		"struct^", "struct ^1", "struct ^{", "struct ^struct {", "struct r^", "struct r ^=", "struct r ^;", "struct r ^x;", "struct r {^", "struct r { ^}", "struct r { /*a*/ ^}", "struct r { ^struct", "struct r { ^1 x;", "struct r { ^x;", "struct r { ^x y;", "struct r { ^void x;", "struct r { int^", "struct r { int ^;", "struct r { int ^int;", "struct r { int ^&x;", "struct r { int x^[2];", "struct r { int x ^}", "struct r { int x ^int y;", "struct r { int x^, y;", "struct r { int x^() { }",
		"struct r { int x; ^x", "struct r { int x; } ^", "struct r { int x; } ^struct", "struct r { int x; ^;", "struct r { int x; ^)", "struct r { int x; ^", "struct r { int x; }; ^;", "struct r { int x; }; ^{", "struct r { int x; /*a*/ ^main", "struct r { int x; } ^main", "struct r { int x; } ^x;", "struct r { ^up",
		"int a; ^struct r { int x; };", "void f() { } ^struct r { int x; };", "void f() { ^struct", "void f() { } int ^struct",
	)
	wantUnreadBehind(t, "program p; ", api.ErrPlace, "struct ^/*n*/ r {", "struct r ^/*n*/ {", "struct r { int ^/*n*/ x;", "struct r { int x ^/*n*/;", "struct r { int x; } ^/*n*/;")
}

func TestVariables(t *testing.T) {
	one := func(ahead, behind string, want api.Type) {
		t.Helper()
		a, b := ahead+" a"+behind, ahead+"\nb "+behind
		wantRead(t, "program p; "+a+"; "+b+" ; main { }", api.Program{Name: "p", Vars: []api.Var{{Name: "a", T: want}, {Name: "b", T: want}}})
		wantRead(t, "program p; void f() { "+a+"; "+b+"; } main { }", api.Program{Name: "p", Routines: []api.Routine{{Name: "f", Vars: []api.Var{{Name: "a", T: want}, {Name: "b", T: want}}}}})
		wantRead(t, "program p; void f("+ahead+" &a"+behind+") { } main { }", api.Program{Name: "p", Routines: []api.Routine{{Name: "f", Params: []api.Param{{Name: "a", T: want, Mode: api.ByRef}}}}})
		wantRead(t, "program p; void f(up "+ahead+"&a"+behind+") { } main { }", api.Program{Name: "p", Routines: []api.Routine{{Name: "f", Params: []api.Param{{Name: "a", T: want, Mode: api.ByUp}}}}})
	}
	for word, kind := range map[string]int{"int": api.KindInt, "bool": api.KindBool, "char": api.KindChar} {
		one(word, "", api.Type{Kind: kind})
		for _, size := range []int{1, 2, api.MaxSize - 1, api.MaxSize} {
			one(word, "["+strconv.Itoa(size)+"]", api.Type{Kind: kind, Size: size})
			one(word, " [ 00"+strconv.Itoa(size)+"\n]", api.Type{Kind: kind, Size: size})
		}
	}
	for _, name := range []string{"r", "a", "integer", "begin"} {
		one(name, "", api.Type{Kind: api.KindRec, Name: name})
	}
	for _, size := range []string{"0", "000", "65", "128", "9223372036854775807", "4294967297", "18446744073"} {
		for _, ahead := range []string{"int a", "void f() { bool a", "void f(char &a", "void f(up int &a", "void f(); void f() { } int g(int x, int &a"} {
			for _, behind := range []string{"];", "", "]", "[", ") x", " /*n*/", " }"} {
				wantUnread(t, "program p; "+ahead+"[^"+size+behind, api.ErrNumber)
			}
		}
	}
	for _, s := range []string{
		"int^", "int ^1;", "int ^int a;", "int ^;", "int ^&a;", "int ^[2] a;", "int a ^= 1;", "int a^, b;", "int a^", "int a ^b;", "int a ^}", "int a ^int b;", "int a; ^1", "r^", "r ^;", "r ^&a;", "r ^int a;", "r a^", "r a^[2];", "r a ^b;", "r a^, b;", "r a^();", "r a ^= b;",
		"int a[^];", "int a[^-1];", "int a[^n];", "int a[^'a'];", "int a[^true];", "int a[2 ^+ 1];", "int a[2^);", "int a[2] ^[2];", "int a[2^", "int a[2]^", "int a[2] ^b;", "int a[2^, 3];", "int a[^[2]];", "int a[2] ^= 1;", "int a[2]^(",
	} {
		wantUnread(t, "program p; "+s, api.ErrToken)
		wantUnread(t, "program p; char c; "+s, api.ErrToken)
		wantUnread(t, "program p; void f() { "+s, api.ErrToken)
	}
	wantUnreadBehind(t, "program p; ", api.ErrToken, "r ^= 1;", "r ^[2] a;", "r ^. a = 1;", "int a; a ^= 1;", "int a(^2);", "int a; f^();", "int a; ^}")
	wantUnreadBehind(t, "program p; ", api.ErrPlace,
		"int ^/*n*/ a;", "int a ^/*n*/;", "r ^/*n*/ a;", "r a ^/*n*/;", "int a ^/*n*/ [2];", "int a[^/*n*/ 2];", "int a[2 ^/*n*/];", "int a[2] ^/*n*/;",
		"void f() { int ^/*n*/ a;", "void f() { int a ^/*n*/;", "void f() { r ^/*n*/ a;", "void f() { r a ^/*n*/;", "void f() { int a[^/*n*/ 2];",
	)
}

// In a routine a name begins a variable just if another one stands behind it.
func TestVariablesAndStatementsThatBeginWithANames(t *testing.T) {
	kind := func(k int) api.Type { return api.Type{Kind: k} }
	rec := func(name string) api.Type { return api.Type{Kind: api.KindRec, Name: name} }
	set := api.Stmt{Op: api.StSet, P: variable("x"), E: []api.Expr{number(1)}}
	calls := api.Stmt{Op: api.StCall, E: []api.Expr{call("f")}}
	body := func(s string, vars []api.Var, stmts ...api.Stmt) {
		t.Helper()
		wantRead(t, "program p; void f() { "+s+" } main { }", api.Program{Name: "p", Routines: []api.Routine{{Name: "f", Vars: vars, Body: stmts}}})
	}
	r, x := api.Var{Name: "x", T: rec("r")}, api.Var{Name: "x", T: kind(api.KindInt)}
	body("r x; x = 1;", []api.Var{r}, set)
	body("int x; x = 1;", []api.Var{x}, set)
	body("int x; r x; int x; f(); x = 1;", []api.Var{x, r, x}, calls, set)
	body("r x; r x; f();", []api.Var{r, r}, calls)
	body("x = 1;", nil, set)
	body("f(); x = 1; f();", nil, calls, set, calls)
	body("r\nx; return;", []api.Var{r}, api.Stmt{Op: api.StReturn})
	body("r x; x.a = 1;", []api.Var{r}, api.Stmt{Op: api.StSet, P: api.Expr{Op: api.ExField, Name: "x", Field: "a"}, E: []api.Expr{number(1)}})
	body("x[1] = 1;", nil, api.Stmt{Op: api.StSet, P: api.Expr{Op: api.ExIndex, Name: "x", L: []api.Expr{number(1)}}, E: []api.Expr{number(1)}})
	body("f$g();", nil, api.Stmt{Op: api.StCall, E: []api.Expr{call("f$g")}})
	body("r x; f$g();", []api.Var{r}, api.Stmt{Op: api.StCall, E: []api.Expr{call("f$g")}})
	body("/*a*/ r x; /*b*/\n/*c*/ x = 1;", []api.Var{{Marks: api.Marks{Before: []string{"a"}, Trail: []string{"b"}}, Name: "x", T: rec("r")}}, marked(before("c"), set))
	wantUnreadBehind(t, "program p; void f() { ", api.ErrToken,
		"x = 1; r ^x;", "x = 1; ^int x;", "f(); r ^x;", "f(); ^char x;", "return; r ^x;", "r x ^= 1;", "r x^[2];", "r x^();", "r ^;", "r ^}", "r^", "int x^();", "int x^() { }", "^void g() { }", "if (a) { ^int x;", "if (a) { r ^x;", "x ^int y;", "int ^1;", "r x; ^void", "r x; r y ^z;",
	)
	wantUnreadBehind(t, "program p; void f() { ", api.ErrPlace, "r ^/*n*/ x;", "int x; r ^/*n*/ x;", "x ^/*n*/ = 1;")
	wantUnreadBehind(t, "program p; main { ", api.ErrToken, "r ^x;", "^int x;", "x = 1; r ^x;")
}
