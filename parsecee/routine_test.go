package parsecee

import (
	"strings"
	"testing"

	"pantograph/api"
)

func TestParameters(t *testing.T) {
	one := func(s string, want ...api.Param) {
		t.Helper()
		wantRead(t, "program p; void f"+s+" { } main { }", api.Program{Name: "p", Routines: []api.Routine{{Name: "f", Params: want}}})
		wantRead(t, "program p; char f$g"+s+"\n{ } main { }", api.Program{Name: "p", Routines: []api.Routine{{Name: "f$g", Params: want, Result: api.KindChar}}})
		wantRead(t, "program p; void f"+s+"; void g() { } void f"+s+" { } main { }", api.Program{Name: "p", Routines: []api.Routine{{Name: "g"}, {Name: "f", Params: want}}})
	}
	param := func(mode, kind, size int, name string) api.Param {
		return api.Param{Name: name, T: api.Type{Kind: kind, Size: size}, Mode: mode}
	}
	record := func(mode int, rec, name string) api.Param {
		return api.Param{Name: name, T: api.Type{Kind: api.KindRec, Name: rec}, Mode: mode}
	}
	one("()")
	one(" (\n)")
	one("(int a)", param(api.ByValue, api.KindInt, 0, "a"))
	one("(bool a, char b)", param(api.ByValue, api.KindBool, 0, "a"), param(api.ByValue, api.KindChar, 0, "b"))
	one("(int &a)", param(api.ByRef, api.KindInt, 0, "a"))
	one("(char &a[3])", param(api.ByRef, api.KindChar, 3, "a"))
	one("(r &a)", record(api.ByRef, "r", "a"))
	one("(up bool &a)", param(api.ByUp, api.KindBool, 0, "a"))
	one("(up bool &a[64])", param(api.ByUp, api.KindBool, 64, "a"))
	one("(up r &a)", record(api.ByUp, "r", "a"))
	one(" ( int a ,\nr & b,char&c [ 2 ] , up int&d, up q\n& e , up char & g[1] ) ", param(api.ByValue, api.KindInt, 0, "a"), record(api.ByRef, "r", "b"), param(api.ByRef, api.KindChar, 2, "c"),
		param(api.ByUp, api.KindInt, 0, "d"), record(api.ByUp, "q", "e"), param(api.ByUp, api.KindChar, 1, "g"))
	one("(r &a, int a, r &r, up int &a)", record(api.ByRef, "r", "a"), param(api.ByValue, api.KindInt, 0, "a"), record(api.ByRef, "r", "r"), param(api.ByUp, api.KindInt, 0, "a"))
	for _, s := range []string{
		"(^,", "(^;", "(^1 a)", "(^&a)", "(^void a)", "(^void)", "(^struct", "(^{", "(^", "^;", "^{ }", "^", "^[",
		"(int^)", "(int ^1)", "(int ^int)", "(int a^[2])", "(int a ^b)", "(int a^;", "(int a^", "(int a,^)", "(int a, ^)", "(int a,^, int b)", "(int a^]", "(int a^[1])", "(int a, ^1)", "(int a ^= 1)",
		"(int &^)", "(int ^&&a)", "(int & ^&a)", "(int & ^int)", "(int &^", "(int &a[^])", "(int &a[^n])", "(int &a[2^)", "(int &a[2]^[2])", "(int &a^()", "(int ^[2] a)", "(int ^[2] &a)",
		"(r^)", "(r ^a)", "(r ^[2] &a)", "(r &^)", "(r &a^[2])", "(r ^r &a)", "(r & ^1)", "(r ^, int a)", "(r^",
		"(up^)", "(up ^up int &a)", "(up ^&a)", "(up int ^a)", "(up int^)", "(up r ^a)", "(up r &a^[2])", "(up int &^)", "(up ^void &a)", "(up int &a[^)", "(up int ^[2] &a)", "(up ^1",
		"(up int &a, ^int b)", "(up int &a, ^r &b)", "(up int &a, ^int &b)", "(up int &a, ^)", "(up int &a, up int &b, ^char c)", "(int a, up int &a, ^int b)", "(up int &a, ^1)", "(up int &a, ^&b)", "(up int &a,^", "(up int &a ^up int &b)",
		"() ^int", "() ^}", "() ^=", "(int a) ^(int b)", "()^", "() ^main",
	} {
		wantUnread(t, "program p; void f"+s, api.ErrToken)
		if !strings.HasPrefix(s, "^") {
			wantUnread(t, "program p; int f"+s, api.ErrToken)
		}
	}
	for _, s := range []string{
		"(^/*n*/)", "(^/*n*/ int a)", "(int ^/*n*/ a)", "(int a ^/*n*/)", "(int a, ^/*n*/ int b)", "(int a ^/*n*/, int b)", "(int ^/*n*/ &b)", "(int &^/*n*/ b)", "(int &b ^/*n*/ [2])", "(int &b[^/*n*/ 2])", "(int &b[2 ^/*n*/])", "(int &b[2] ^/*n*/)", "(r ^/*n*/ &a)", "(r & ^/*n*/ a)", "(up ^/*n*/ int &b)", "(up int ^/*n*/ &b)", "(up r ^/*n*/ &b)", "(up r &b, ^/*n*/ up int &a)",
		"^/*n*/ (int a)", "(int a)^/*n*/;", "(int a) ^/*n*/ { }", "()\n^/*n*/ /*m*/ {",
	} {
		wantUnread(t, "program p; void f"+s, api.ErrPlace)
		wantUnread(t, "program p; void e() { } int f"+s, api.ErrPlace)
	}
}

func TestRoutines(t *testing.T) {
	for word, kind := range map[string]int{"void": 0, "int": api.KindInt, "bool": api.KindBool, "char": api.KindChar} {
		wantRead(t, "program p; "+word+" f() { } main { }", api.Program{Name: "p", Routines: []api.Routine{{Name: "f", Result: kind}}})
		wantRead(t, "program p; int f; "+word+" f$g$h(){}main{}", api.Program{Name: "p", Vars: []api.Var{{Name: "f", T: api.Type{Kind: api.KindInt}}}, Routines: []api.Routine{{Name: "f$g$h", Result: kind}}})
	}
	x, y := api.Var{Name: "x", T: api.Type{Kind: api.KindInt}}, api.Var{Name: "y", T: api.Type{Kind: api.KindRec, Name: "r"}}
	f := api.Routine{Name: "f", Vars: []api.Var{x, y}, Body: []api.Stmt{written(1)}}
	g := api.Routine{Name: "f$g", Vars: []api.Var{y}, Result: api.KindBool, Body: []api.Stmt{written(2)}, Params: []api.Param{{Name: "x", T: x.T, Mode: api.ByUp}}}
	h := api.Routine{Name: "f$g$h", Body: []api.Stmt{written(3), written(4)}}
	fText, gText, hText := "void f() { int x; r y; put(1); } ", "bool f$g(up int &x) { r y; put(2); } ", "void f$g$h() { put(3); put(4); } "
	wantRead(t, "program p; "+fText+gText+hText+"main { put(7); }", api.Program{Name: "p", Routines: []api.Routine{f, g, h}, Body: []api.Stmt{written(7)}})
	wantRead(t, "program p; r y; int x; "+hText+fText+"main { }", api.Program{Name: "p", Vars: []api.Var{y, x}, Routines: []api.Routine{h, f}})
	wantUnreadBehind(t, "program p; ", api.ErrToken,
		"void^", "void ^1", "void ^;", "void ^()", "void ^void f()", "void ^{", "void ^put(", "void ^int f() { }", "void ^&f()", "void f^", "void f^;", "void f^[2];", "void f ^{ }", "void f ^g;", "void f ^= 1;", "void f$g^;", "void f$g ^{ }", "void f$g^",
		"void f() { ^)", "void f() {^", "void f() { }^;", "void f() { } ^}", "void f() { } ^", "void f() { ^struct", "void f() { ^main", "void f() { } ^struct", "void f() { } ^put(1);", "void f() { } ^1", "void f() { } ^up", "void f() { } ^;", "void f() { ^void g() { } }", "void f() { int a; ^void g() { }", "void f() { put(1); ^void g()", "void f() { ^", "void f() { int g^() { }",
		"int f() { } main { } ^int g() { }", "int f() { ^else", "int f() ^int", "char f$g() { } main ^;",
	)
}

func TestHeadingsWithASemicolon(t *testing.T) {
	f, g := api.Routine{Name: "f"}, api.Routine{Name: "g"}
	two := func(l ...api.Routine) api.Program { return api.Program{Name: "p", Routines: l} }
	wantRead(t, "program p; void f(); void f() { } main { }", two(f))
	wantRead(t, "program p; void f(); void g() { } void f() { } main { }", two(g, f))
	wantRead(t, "program p; void g() ;\nvoid f();void f(){}void g(){} main { }", two(f, g))
	wantRead(t, "program p; void f$g(); void f() { } void f$g() { } main { }", two(f, api.Routine{Name: "f$g"}))
	wantRead(t, "program p; int f; void f(); void f() { } main { }", api.Program{Name: "p", Vars: []api.Var{{Name: "f", T: api.Type{Kind: api.KindInt}}}, Routines: []api.Routine{f}})
	full := api.Routine{Name: "f", Result: api.KindBool, Params: []api.Param{{Name: "a", T: api.Type{Kind: api.KindInt}}, {Name: "b", T: api.Type{Kind: api.KindRec, Name: "r"}, Mode: api.ByRef}, {Name: "c", T: api.Type{Kind: api.KindChar, Size: 2}, Mode: api.ByUp}}, Body: []api.Stmt{written(1)}}
	full.Before, full.Trail = []string{"b"}, []string{"t"}
	wantRead(t, "program p; bool f(int a, r &b, up char &c[2]);\n/*b*/ bool f ( int a , r & b,up char&c[02] )\n{ put(1); } /*t*/\nmain { }", two(full))
	wantUnreadBehind(t, "program p; ", api.ErrNone,
		"void ^f(); main", "void ^f(); main { }", "void ^f();", "void ^f(); 1", "void ^f(); struct", "void ^f(); }", "void ^f(); /*m*/ main", "void ^f(); /*m*/", "void ^f(); int g(); main", "void ^f$g(); void f() { } main", "void ^f(); void f$g() { } main",
		"void f(); void ^g(); void f() { } main", "void ^g(); void f(); ;", "int a; int ^a(); main", "void f() { } char ^g(int a); put", "void ^f(); up", "void ^f(); &", "void ^f(); {",
	)
}

func TestHeadingsOfAnotherRoutine(t *testing.T) {
	wantUnreadBehind(t, "program p; ", api.ErrType,
		"void f(); char ^f() {", "char f(); void ^f() { }", "char f(); int ^f() { }", "void f(); void ^f(char a) { }", "void f(char a); void ^f() { }", "void f(char a); void ^f(char b) { }", "void f(char a); void ^f(int a) { }", "void f(char a); void ^f(char &a) { }", "void f(char &a); void ^f(up char &a) { }", "void f(r &a); void ^f(q &a) { }",
		"void f(char &a[2]); void ^f(char &a[3]) {", "void f(char &a); void ^f(char &a[1]) { }", "void f(char a, char b); void ^f(char a) {", "void f(char a); void ^f(char a, char b) {", "void f(char a, int b); void ^f(int b, char a) {", "void f(up int &a, up int &b); void ^f(up int &b, up int &a) { }", "void f(r &a); void ^f(up r &a) { }",
		"void f(); void ^f(char a) )", "void f(); void ^f(char a) /*n*/ {", "void f(); void ^f(char a)", "void f$g(); int ^f$g() { }", "void f(); void g(); void f() { } int ^g() { }", "void f(); void ^f(char a) 1",
	)
}

func TestNamesThatAreThereAlready(t *testing.T) {
	wantUnreadBehind(t, "program p; ", api.ErrTwice,
		"void f(); void ^f();", "void f(); char ^f();", "void f(); void ^f(int a);", "void f(); void f() { } void ^f();", "void f() { } void ^f();", "void f() { } void ^f() { }", "void f() { } char ^f() { }", "void f() { } /*n*/ void ^f() { }", "void f() { } void g() { } void ^f() {",
		"void f(); void f() { } void ^f() { }", "void f(); void f() { } void ^f(char a) { }", "void f() { } void ^f() )", "void f() { } void ^f() /*n*/ {", "void f() { } void ^f()", "void g(); void f() { } void ^f() { } main", "void f$g() { } void ^f$g() { }", "void f$g(); void ^f$g();", "int a; void a() { } void ^a() { }",
	)
	// A part of a name is no name of the list.
	wantRead(t, "program p; void f() { } void f$f() { } void f$f$f() { } main { }", api.Program{Name: "p", Routines: []api.Routine{{Name: "f"}, {Name: "f$f"}, {Name: "f$f$f"}}})
}

func TestCommentsAheadOfHeadings(t *testing.T) {
	wantUnreadBehind(t, "program p; ", api.ErrPlace,
		"^/*n*/ void f();", "void f(); ^/*n*/ void f();", "void f() { }\n^/*n*/ /*m*/ void f();", "void f(); ^/*n*/ void g(); main", "void f(); ^/*n*/\n\n/*m*/ void g();", "void f() { } /*t*/\n^/*n*/ void g();", "int a; /*t*/\n^/*n*/ void g();", "^/*n*/ int f(int a, up int &b);", "void f(); ^/*n*/ void f();",
	)
	wantRead(t, "program p; void f(); /*b*/ void f() { } main { }", api.Program{Name: "p", Routines: []api.Routine{{Marks: before("b"), Name: "f"}}})
	// What is wrong ahead of the ; is met ahead of it.
	wantUnreadBehind(t, "program p; ", api.ErrToken, "/*n*/ void f(^;", "/*n*/ void f^;", "/*n*/ void f() ^)", "/*n*/ void ^;", "void f() { } void f(^, ", "void f() { } void f ^;", "void f(); int f^;")
	wantUnreadBehind(t, "program p; ", api.ErrNumber, "/*n*/ void f(int &a[^0]);", "void f() { } void f(int &a[^65]);")
	wantUnread(t, "program p; /*n*/ void f() ^/*m*/;", api.ErrPlace)
	wantUnread(t, "program p; void f(); main { ^?", api.ErrByte)
}

// Behind a routine or a heading a declaration that begins with a name is none: that is told behind its second name.
func TestDeclarationsBehindRoutines(t *testing.T) {
	for _, ahead := range []string{"program p; void f() { } ", "program p; void f(); ", "program p; int a; char f$g() { } /*t*/ ", "program p; void g(); void g() { } ", "program p; void f() { }\n/*b*/ "} {
		wantUnreadBehind(t, ahead, api.ErrToken,
			"r x^;", "r x ^= 1;", "r x^();", "r x^[2];", "r x ^y;", "r x^", "r x ^main", "r x ^(int a) { }", "r a$b^;", "r a$b^() { }", "r a$b^", "r ^;", "r ^= 1;", "r^", "r ^main", "r ^int", "r ^1", "r ^(",
			"int x^;", "int x^[2];", "int x^", "int x ^= 1;", "int x ^r", "int a$b^;", "int a$b^", "int a$b^[2];", "int ^;", "int^", "char ^main", "void x^;", "void a$b^;", "void^", "bool a$b ^{",
		)
		wantUnreadBehind(t, ahead, api.ErrPlace, "r x ^/*n*/;", "r ^/*n*/ x;", "int x ^/*n*/ ;", "int a$b ^/*n*/ (", "int ^/*n*/ x() { }", "void x ^/*n*/ ()")
		wantUnreadBehind(t, ahead, api.ErrName, "^r$s x;", "^r$s", "^r$s = 1;", "^f$g();")
	}
}

// A name with $ may stand where a routine's does, and nowhere else.
func TestNamesWithParts(t *testing.T) {
	wantUnreadBehind(t, "program ", api.ErrName, "^p$q;", "^p$q", "^a$b$c main", "^p$q /*n*/", "^p$int;")
	wantUnreadBehind(t, "program p; ", api.ErrName,
		"struct ^r$s {", "struct ^r$s", "struct ^r$s ;", "struct r { int ^x$y;", "struct r { int ^x$y", "struct r { int x; char ^y$z = 1;",
		"int ^a$b;", "int ^a$b", "int ^a$b[2];", "int ^a$b[0];", "int ^a$b = 1;", "int ^a$b /*n*/ () { }", "int ^a$b main", "char c; bool ^a$b$c$d;", "int ^a$b { }", "^r$s a;", "^r$s a$b;", "^r$s", "^r$s(", "^r$s = 1;", "r ^a$b;", "r ^a$b[2];", "r ^a$b", "r ^a$b();", "r ^a$b = 1;", "int a; r ^a$b;",
		"void f(int ^a$b)", "void f(int &^a$b)", "void f(int &^a$b[0])", "void f(^r$s &a)", "void f(^r$s a)", "void f(r &^a$b)", "void f(up ^r$s &a)", "void f(up int &^a$b)", "void f(up r &^a$b", "void f(int a, ^r$s", "void f$g(int ^f$g)",
		"void f() { int ^a$b;", "void f() { int ^a$b() { }", "void f() { ^r$s a;", "void f() { r ^a$b;", "void f() { int a; r ^a$b[2]", "void f() { ^a$b = 1;", "void f() { ^a$b;", "void f() { ^r$s b$c;", "void f() { int ^a$b[65];",
	)
	wantUnreadBehind(t, "program p; main { ", api.ErrName,
		"^a$b = 1;", "^a$b[1] = 1;", "^a$b.c = 1;", "a.^b$c = 1;", "^a$b;", "^a$b", "a[^b$c] = 1;", "a = ^b$c;", "a = 1 + ^b$c.d;", "get(^a$b);", "get(a.^b$c);", "get(a[^b$c]);", "get(^a$b + 1);", "put(^a$b);", "put(1 + ^a$b[1]);", "return ^a$b;",
		"for (^k$l = 1 to 2) { }", "for (^k$l", "for (^k$l; ", "for (k = ^a$b to 2) { }", "if (^a$b) { }", "while (^a$b) { }", "do { } until (^a$b);", "f(up ^a$b);", "f$g(^a$b);", "f(^a$b, );", "^a$b /*n*/ ();", "^r$s x;",
	)
	// Where no name may stand one with $ is no better than others.
	wantUnreadBehind(t, "program p; ", api.ErrToken, "main ^a$b", "main { } ^a$b", "main { a ^b$c;", "main { put(a ^b$c);", "struct r ^a$b {", "struct r { ^a$b x;", "int a ^b$c;", "void f() ^g$h", "void f(int a ^b$c)", "void f(r ^a$b)", "void f(int &a[^b$c])", "main { if ^a$b", "void f(up int &a, ^r$s &b)")
	for _, s := range []string{"f$g", "a$b$c$d", "f1_$g2", "f$f", strings.Repeat("z", api.MaxName) + "$" + strings.Repeat("y", api.MaxName), strings.Repeat("a$", 100) + "a"} {
		r := api.Routine{Name: s, Result: api.KindChar, Params: []api.Param{{Name: "a", T: api.Type{Kind: api.KindInt}, Mode: api.ByUp}}, Body: []api.Stmt{{Op: api.StReturn, E: []api.Expr{call(s, up("a"))}}}}
		wantRead(t, "program p; char "+s+"(up int &a); char "+s+"(up int &a) { return "+s+"(up a); } main { "+s+"(up b); }",
			api.Program{Name: "p", Routines: []api.Routine{r}, Body: []api.Stmt{{Op: api.StCall, E: []api.Expr{call(s, up("b"))}}}})
	}
}

// What is read is right of Cee, so no part of a routine's name is a word, where the routine stands and where it is called.
func TestNamesWithAWordAmongTheirParts(t *testing.T) {
	for _, name := range []string{"f$int", "int$f", "int$int", "f$main$g", "f$g$up", "put$x", "a$if"} {
		wantUnreadBehind(t, "program p; ", api.ErrName,
			"void ^"+name+"() { } main { }", "int ^"+name+"();", "void ^"+name, "void ^"+name+" 1", "char ^"+name+"() { } 1 +", "int a; void f() { } bool ^"+name+"(", "void f() { } void ^"+name+";", "void f() { } r ^"+name+";", "r ^"+name+"(", "^"+name+" x;", "int ^"+name+";",
			"void f() { ^"+name+"(); }", "void f() { ^"+name+" x;", "void f() { int ^"+name+"() {", "main { ^"+name+"(up a); }", "main { a = f(1 + ^"+name+"(2), ]", "main { a[^"+name+"()] = 2; }", "main { get(^"+name+"()); }", "main { f(up ^"+name+"); }", "main { ^"+name+"() = 1; }", "main { a = !(^"+name+"(", "main { put(^"+name+"()); } }", "main { ^"+name+" x;", "struct ^"+name+" {",
		)
		// What is wrong ahead of it is met ahead of it, and where no name may stand it is no better than others.
		wantUnread(t, "program p; main { ^1 = "+name+"(); }", api.ErrToken)
		wantUnread(t, "program p; void f() { } void ^f() { } void "+name+"() { }", api.ErrTwice)
		wantUnread(t, "program p; ^/*n*/ void f(); void "+name+"() { }", api.ErrPlace)
		wantUnreadBehind(t, "program p; ", api.ErrToken, "main ^"+name, "main { } ^"+name+"()", "main { a ^"+name+"();", "void f() ^"+name+"()", "struct r { ^"+name+" x;", "r x ^"+name+"(", "main { put(1) ^"+name)
		wantUnread(t, "program p; main { "+strings.Repeat("put(1); ", api.MaxItems)+"^"+name+"(); }", api.ErrLong)
	}
	for _, name := range []string{"f$ints", "integer$f", "a$begin", "f$end$var", "up_$up1", "f$i$f"} {
		wantRead(t, "program p; void "+name+"() { } main { "+name+"(); }", api.Program{Name: "p", Routines: []api.Routine{{Name: name}}, Body: []api.Stmt{{Op: api.StCall, E: []api.Expr{call(name)}}}})
	}
}
