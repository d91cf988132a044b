package parsepas

import (
	"slices"
	"strconv"
	"strings"
	"testing"

	"pantograph/api"
	"pantograph/exprpas"
	"pantograph/text"
	"pantograph/tree"
)

func number(n int64) api.Expr       { return api.Expr{Op: api.ExInt, N: n} }
func variable(name string) api.Expr { return api.Expr{Op: api.ExVar, Name: name} }
func call(name string, l ...api.Expr) api.Expr {
	return api.Expr{Op: api.ExCall, Name: name, L: l}
}
func op(of int, l ...api.Expr) api.Expr { return api.Expr{Op: of, L: l} }

func before(l ...string) api.Marks { return api.Marks{Before: l} }
func trail(l ...string) api.Marks  { return api.Marks{Trail: l} }

// put is write(n), as short a statement as there is with something in it.
func put(n int64) api.Stmt { return api.Stmt{Op: api.StWrite, E: []api.Expr{number(n)}} }

func marked(m api.Marks, s api.Stmt) api.Stmt {
	s.Marks = m
	return s
}

func programOf(body ...api.Stmt) api.Program { return api.Program{Name: "p", Body: body} }

// wantRead is P10.1 and P10.2 of a text that is read.
func wantRead(t *testing.T, s string, want api.Program) {
	t.Helper()
	got, d := Read(s)
	if d != (api.Diag{}) {
		t.Fatalf("Read(%.300q): %v", s, d)
	}
	if !tree.Same(got, want) {
		t.Fatalf("Read(%.300q) = %+v, want %+v", s, got, want)
	}
	if tree.Check(api.Pas, got) != api.OK {
		t.Fatalf("Read(%.300q) = %+v isn't right of Pas", s, got)
	}
	if at := Items(s); len(at) != itemsOf(got) {
		t.Fatalf("Items(%.300q) = %v, want %d of them", s, at, itemsOf(got))
	}
}

// wantBody reads a program with that body.
func wantBody(t *testing.T, body string, want ...api.Stmt) {
	t.Helper()
	wantRead(t, "program p; begin "+body+" end.", programOf(want...))
}

// wantUnread: in s a ^ stands ahead of the place that is to be told.
func wantUnread(t *testing.T, s string, code api.Errno) {
	t.Helper()
	at := strings.Index(s, "^")
	if at < 0 || strings.Count(s, "^") != 1 {
		t.Fatalf("%.300q: no place", s)
	}
	s = s[:at] + s[at+1:]
	got, d := Read(s)
	if want := (api.Diag{Code: code, Pos: text.At(s, at)}); d != want || !tree.Same(got, api.Program{}) {
		t.Fatalf("Read(%.300q) = %+v, %v, want %v alone", s, got, d, want)
	}
	if l := Items(s); len(l) != 0 {
		t.Fatalf("Items(%.300q) = %v", s, l)
	}
}

func itemsOf(p api.Program) int {
	return len(p.Recs) + len(p.Vars) + itemsOfRoutines(p.Routines) + itemsOfStmts(p.Body)
}

func itemsOfRoutines(l []api.Routine) (n int) {
	for _, r := range l {
		n += 1 + len(r.Vars) + itemsOfRoutines(r.Inner) + itemsOfStmts(r.Body)
	}
	return n
}

func itemsOfStmts(l []api.Stmt) (n int) {
	for _, s := range l {
		n += 1 + itemsOfStmts(s.Body) + itemsOfStmts(s.Else)
	}
	return n
}

func TestChaptersExample(t *testing.T) {
	wantRead(t, "program p; begin write(1) ; {a} end.", programOf(marked(trail("a"), put(1))))
}

func TestNothingButAName(t *testing.T) {
	for _, s := range []string{"program p; begin end.", "program p;begin end.", "\n PROGRAM\tP\r\n;\nBegin END\n.\n", "program P ; begin end ."} {
		wantRead(t, s, api.Program{Name: "p"})
	}
	wantRead(t, "program "+strings.Repeat("a", api.MaxName)+"; begin end.", api.Program{Name: strings.Repeat("a", api.MaxName)})
	for _, s := range []string{
		"^", "  \n ^", "^begin end.", "^p", "^.", "^'p'", "^1", "program^", "program ^;", "program ^begin", "program ^1;", "program p^", "program p ^begin end.", "program p ^.", "program p ^q;",
		"program p; ^", "program p; ^end.", "program p; ^.", "program p; ^;", "program p; ^q", "program p; ^program q;", "program p; begin^", "program p; begin end^", "program p; begin end ^;", "program p; begin end^;",
		"program p; begin end. ^.", "program p; begin end. ^begin", "program p; begin end. ^x", "program p; begin end. ^1", "program p; begin end. ^'a'", "program p; begin end. {a} ^program", "program p; begin end. {a}{b} ^; {c}",
		"program ^program; begin end.", "program ^end; begin end.",
	} {
		wantUnread(t, s, api.ErrToken)
	}
}

func TestLayer5sDiags(t *testing.T) {
	for s, code := range map[string]api.Errno{
		"program p; begin end. ^?": api.ErrByte, "^? program": api.ErrByte, "begin ^'": api.ErrQuote, "program p; begin ^#999 := 1; end.": api.ErrQuote, "program p; begin end. ^{a": api.ErrNote, "^{a\\b} program": api.ErrNote,
		"program p; begin x := ^9223372036854775808; end.": api.ErrNumber, "program p; var a : array[^9223372036854775808] of char;": api.ErrNumber,
		"program p; begin " + "^" + strings.Repeat("x", api.MaxName+1) + " := 1; end.": api.ErrLong, "program p; begin end. ^{" + strings.Repeat("x", api.MaxNote+1) + "}": api.ErrLong,
		"^program p; begin end." + strings.Repeat(" ", api.MaxText): api.ErrLong,
		// ahead of all that the tokens would tell
		"end ^?": api.ErrByte, "program p; var a : array[99] of ^\x00": api.ErrByte, "program p; {a} procedure f; forward; ^'": api.ErrQuote,
	} {
		wantUnread(t, s, code)
	}
}

func TestEachStatement(t *testing.T) {
	a, i := variable("a"), api.Expr{Op: api.ExIndex, Name: "a", L: []api.Expr{number(1)}}
	field := api.Expr{Op: api.ExField, Name: "a", Field: "b"}
	one := []api.Stmt{put(1)}
	if1 := api.Stmt{Op: api.StIf, E: []api.Expr{a}, Body: one}
	else1 := api.Stmt{Op: api.StIf, E: []api.Expr{a}, More: true}
	while := api.Stmt{Op: api.StWhile, E: []api.Expr{op(api.ExLt, a, number(1))}, Body: one}
	repeat := api.Stmt{Op: api.StRepeat, E: []api.Expr{op(api.ExNot, a)}}
	for1 := api.Stmt{Op: api.StFor, Name: "k", E: []api.Expr{number(1), op(api.ExAdd, a, number(2))}, Body: one}
	all := []struct {
		s    string
		want api.Stmt
	}{
		{"a := 1;", api.Stmt{Op: api.StSet, P: a, E: []api.Expr{number(1)}}},
		{"a[1] := a;", api.Stmt{Op: api.StSet, P: i, E: []api.Expr{a}}},
		{"a.b := -a = 'c';", api.Stmt{Op: api.StSet, P: field, E: []api.Expr{op(api.ExEq, op(api.ExNeg, a), api.Expr{Op: api.ExChar, N: 'c'})}}},
		{"f();", api.Stmt{Op: api.StCall, E: []api.Expr{call("f")}}},
		{"f(a, a[1]);", api.Stmt{Op: api.StCall, E: []api.Expr{call("f", a, i)}}},
		{"if a then begin write(1); end;", if1},
		{"if a then begin end;", api.Stmt{Op: api.StIf, E: []api.Expr{a}}},
		{"if a then begin end else begin end;", else1},
		{"if a then begin write(1); end else begin write(2); write(3); end;", api.Stmt{Op: api.StIf, E: []api.Expr{a}, Body: one, More: true, Else: []api.Stmt{put(2), put(3)}}},
		{"while a < 1 do begin write(1); end;", while},
		{"while a < 1 do begin end;", api.Stmt{Op: api.StWhile, E: while.E}},
		{"repeat until not a;", repeat},
		{"repeat write(1); write(2); until not a;", api.Stmt{Op: api.StRepeat, E: repeat.E, Body: []api.Stmt{put(1), put(2)}}},
		{"for k := 1 to a + 2 do begin write(1); end;", for1},
		{"for k := 1 downto a + 2 do begin end;", api.Stmt{Op: api.StFor, Name: "k", E: for1.E, Down: true}},
		{"read(a);", api.Stmt{Op: api.StRead, P: a}}, {"read(a[1]);", api.Stmt{Op: api.StRead, P: i}}, {"read(a.b);", api.Stmt{Op: api.StRead, P: field}},
		{"write(1);", put(1)}, {"write(f());", api.Stmt{Op: api.StWrite, E: []api.Expr{call("f")}}},
		{"return;", api.Stmt{Op: api.StReturn}}, {"return a;", api.Stmt{Op: api.StReturn, E: []api.Expr{a}}}, {"return (a);", api.Stmt{Op: api.StReturn, E: []api.Expr{a}}},
	}
	for _, x := range all {
		wantBody(t, x.s, x.want)
		wantBody(t, strings.ToUpper(strings.ReplaceAll(x.s, "'c'", "#99")), x.want)
		wantBody(t, strings.ReplaceAll(x.s, " ", "\n "), x.want)
		wantBody(t, x.s+x.s, x.want, x.want)
		two := []api.Stmt{x.want, put(7)}
		s := x.s + " write(7);"
		wantBody(t, "if a then begin "+s+" end;", api.Stmt{Op: api.StIf, E: []api.Expr{a}, Body: two})
		wantBody(t, "if a then begin end else begin "+s+" end;", api.Stmt{Op: api.StIf, E: []api.Expr{a}, More: true, Else: two})
		wantBody(t, "while a do begin "+s+" end;", api.Stmt{Op: api.StWhile, E: []api.Expr{a}, Body: two})
		wantBody(t, "repeat "+s+" until a;", api.Stmt{Op: api.StRepeat, E: []api.Expr{a}, Body: two})
		wantBody(t, "for k := 1 to 2 do begin "+s+" end;", api.Stmt{Op: api.StFor, Name: "k", E: []api.Expr{number(1), number(2)}, Body: two})
		wantRead(t, "program p; procedure f; begin "+s+" end; begin "+s+" end.", api.Program{Name: "p", Routines: []api.Routine{{Name: "f", Body: two}}, Body: two})
	}
}

func TestWrongStatements(t *testing.T) {
	for _, s := range []string{
		"a^;", "a ^= 1;", "a := ^;", "a := ^end", "a := 1 ^end", "a := 1 ^b := 2;", "a ^: = 1;", "a := 1 ^:= 2;", "a[1]^;", "a[1] ^f();", "a.b ^.c := 1;", "a[1] ^[2] := 1;", "a.^1 := 1;", "a ^end", "a ^", "^1 := a;", "^(a) := 1;", "^-a := 1;", "^true := 1;", "^'a' := 1;", "a ^+ 1 := 2;",
		"f() ^:= 1;", "f(1) ^= 1;", "f() ^+ 1;", "f() ^end", "f() ^g();", "f() ^. a := 1;", "f(1^;", "f(^;", "f(1,^);", "f ^;", "^;", "write(1);^;", "^:= 1;", "f() ^() ;",
		"if ^then begin end;", "if a ^begin end;", "if a ^do begin end;", "if a then ^write(1);", "if a then ^end;", "if a then begin ^else begin end;", "if a then begin end ^", "if a then begin end ^then", "if a then begin end else ^write(1);", "if a then begin end else ^if a then begin end;", "if a then begin end; ^else begin end;", "if a then begin end else begin end ^else begin end;", "if a then begin write(1) ^end;", "if^", "if a^", "if a then^", "if a then begin^",
		"while ^do begin end;", "while a ^then begin end;", "while a do ^write(1);", "while a do begin end ^end", "while a do begin ^until a;", "^do begin end;", "while a do begin ^begin end;",
		"repeat ^begin end until a;", "repeat ^end;", "repeat write(1) ^until a;", "repeat until ^;", "repeat until a ^until a;", "repeat^", "repeat write(1);^", "repeat until^", "repeat until a^",
		"for ^1 := 1 to 2 do begin end;", "for k ^= 1 to 2 do begin end;", "for k^[1] := 1 to 2 do begin end;", "for k := ^to 2 do begin end;", "for k := 1 ^2 do begin end;", "for k := 1 ^do begin end;", "for k := 1 to ^do begin end;", "for k := 1 to 2 ^begin end;", "for k := 1 to 2 do ^write(1);", "for k := 1 to 2 ^to 3 do begin end;", "for k := 1 to 2 do begin end ^", "for ^to := 1 to 2 do begin end;", "for^", "for k := 1 downto 2^",
		"read ^a;", "read(^);", "read(^1);", "read(^(a));", "read(a ^+ 1);", "read(a^, a);", "read(a^;", "read(a.b ^.c);", "read^;", "read(^-a);", "read(a) ^end", "read(^true);",
		"write ^1;", "write(^);", "write(1^, 2);", "write(1^;", "write(1) ^end", "write^", "write(1^]", "write(1 ^: 2);",
		"return ^end", "return a ^b;", "return ^return;", "return^", "return (a^;", "return 1^", "return ^:= 1;",
		"^begin end;", "^else;", "^then", "^to", "^program", "^type", "^var a : char;", "^procedure f; begin end;", "^function", "^forward;", "^not a;", "^until a;", "^'a';", "^1;", "^,", "^)", "^]", "^of", "^array", "^record", "^integer := 1;", "^downto",
	} {
		wantUnread(t, "program p; begin "+s, api.ErrToken)
		wantUnread(t, "program p; function f : char; begin write(1); "+s, api.ErrToken)
		wantUnread(t, "program p; begin while a do begin repeat write(1); if a then begin end else begin "+s, api.ErrToken)
	}
}

// What Parse and Named tell of an operand is told as they tell it.
func TestFaultsOfOperands(t *testing.T) {
	deep := strings.Repeat("not ", api.MaxDepth)
	long := "f(" + strings.TrimSuffix(strings.Repeat("1,", api.MaxItems+1), ",") + ")"
	for _, around := range []string{"a := ~;", "write(~);", "return ~;", "if ~ then begin end;", "while ~ do begin end;", "repeat until ~;", "for k := ~ to 2 do begin end;", "for k := 1 downto ~ do begin end;"} {
		in := func(s string) string { return "program p;\nbegin " + strings.Replace(around, "~", s, 1) + " end." }
		wantUnread(t, in("^"+deep+"a"), api.ErrDeep)
		wantUnread(t, in("^"+long), api.ErrLong)
		wantUnread(t, in("^1 + "+long), api.ErrLong)
		wantUnread(t, in("^"+deep+long), api.ErrLong)
		wantUnread(t, in("a + ^* b"), api.ErrToken)
		wantUnread(t, in("a + ^{n} b"), api.ErrPlace)
		wantUnread(t, in("a[1^, 2]"), api.ErrToken)
		wantUnread(t, in("f(1, ^)"), api.ErrToken)
		wantUnread(t, in("(a = b ^= c)"), api.ErrToken)
		if _, d := Read(in(deep[4:] + "a")); d != (api.Diag{}) {
			t.Fatal(around, d)
		}
	}
	for _, s := range []string{"^f(" + deep + "a);", "^a[" + deep + "a] := 1;", "read(^a[" + deep + "a]);", "read(^f(" + deep + "a));"} {
		wantUnread(t, "program p; begin "+s+" end.", api.ErrDeep)
	}
	for _, s := range []string{"^" + long + ";", "^f(" + long + ");", "^a[" + long + "] := 1;", "read(^a[" + long + "]);", "read(^" + long + ");", "^" + long + " := 1;"} {
		wantUnread(t, "program p; begin "+s+" end.", api.ErrLong)
	}
	wantUnread(t, "program p; begin a[^{n} 1] := 2;", api.ErrPlace)
	wantUnread(t, "program p; begin f(1^{n});", api.ErrPlace)
}

func TestCallWhereAPlaceIsAskedFor(t *testing.T) {
	for _, s := range []string{"read(^f());", "read(^f(1, a));", "read( \n ^f());", "read(^f()", "read(^f() + 1);", "read(^f(read1));", "read(^f();", "read(^f() {n});", "read(^f(f(f())));"} {
		wantUnread(t, "program p; begin "+s, api.ErrToken)
	}
	// What is wrong within the call is met ahead of its end.
	for _, s := range []string{"read(f(^", "read(f(1 ^2));", "read(f(^,1));", "read(f(^*));"} {
		wantUnread(t, "program p; begin "+s, api.ErrToken)
	}
	wantUnread(t, "program p; begin read(f(^{n}));", api.ErrPlace)
	wantUnread(t, "program p; begin f(1, 2) ^:= 3; end.", api.ErrToken)
	wantUnread(t, "program p; begin f(1, 2)\n^{n} := 3; end.", api.ErrPlace)
}

func TestRecords(t *testing.T) {
	field := func(name string, kind int) api.Field { return api.Field{Name: name, Kind: kind} }
	r := func(l ...api.Rec) api.Program { return api.Program{Name: "p", Recs: l} }
	tail := " begin end."
	wantRead(t, "program p; type r = record x : integer; end;"+tail, r(api.Rec{Name: "r", Fields: []api.Field{field("x", api.KindInt)}}))
	three := []api.Field{field("x", api.KindInt), field("y", api.KindBool), field("z", api.KindChar)}
	wantRead(t, "program p; type r = record x : integer; y : boolean; z : char; end;"+tail, r(api.Rec{Name: "r", Fields: three}))
	wantRead(t, "program p; TYPE R=RECORD X:Integer;Y:Boolean;Z:CHAR;END;"+tail, r(api.Rec{Name: "r", Fields: three}))
	// Names that are there already are no matter of this layer.
	wantRead(t, "program p; type p = record p : char; p : char; end; type p = record x : integer; end;"+tail,
		r(api.Rec{Name: "p", Fields: []api.Field{field("p", api.KindChar), field("p", api.KindChar)}}, api.Rec{Name: "p", Fields: three[:1]}))
	wantRead(t, "program p;\n{a}{b} type r = record {c}\n{d} x : integer; {e} {f}\n{g}\ny : boolean; z : char;\n{h} {i} end; {j} {k}\n{l} begin end.", api.Program{Name: "p", Mid: []string{"l"}, Recs: []api.Rec{{
		Marks: api.Marks{Before: []string{"a", "b"}, Trail: []string{"j", "k"}}, Name: "r", End: []string{"h", "i"},
		Fields: []api.Field{{Marks: api.Marks{Before: []string{"c", "d"}, Trail: []string{"e", "f"}}, Name: "x", Kind: api.KindInt}, {Marks: before("g"), Name: "y", Kind: api.KindBool}, three[2]}}}})
	for _, s := range []string{
		"type^", "type ^1", "type ^= record", "type ^record = record", "type r^", "type r ^: record", "type r = ^array", "type r = ^begin", "type r = ^q;", "type r = record ^end;", "type r = record {a} ^end;", "type r = record ^type", "type r = record ^1 : char;", "type r = record ^var x : char;", "type r = record x ^= char;", "type r = record x : ^q;", "type r = record x : ^array[2] of char;", "type r = record x : ^x;", "type r = record x : ^record", "type r = record x : char ^end;", "type r = record x : char ^y : char;", "type r = record x^, y : char;",
		"type r = record x : char; end ^", "type r = record x : char; end ^type", "type r = record x : char; ^;", "type r = record x : char; ^.", "type r = record x : char; ^", "type r = record^", "type r = record x : char; end; ^;", "type r = record x : char; end; ^r = record", "type r = record x : char; {a} ^until", "type r = record x : char; ^begin",
		"var a : char; ^type r = record x : char; end;", "procedure f; begin end; ^type r = record x : char; end;",
	} {
		wantUnread(t, "program p; "+s, api.ErrToken)
	}
	for _, s := range []string{"type ^{n} r = record", "type r ^{n} = record", "type r = ^{n} record", "type r = record x ^{n} : char;", "type r = record x : ^{char} char;", "type r = record x : char ^{n};", "type r = record x : char; end ^{n};"} {
		wantUnread(t, "program p; "+s, api.ErrPlace)
	}
}

func TestVariables(t *testing.T) {
	one := func(s string, want api.Type) {
		t.Helper()
		wantRead(t, "program p; var a : "+s+"; begin end.", api.Program{Name: "p", Vars: []api.Var{{Name: "a", T: want}}})
		wantRead(t, "program p; procedure f; var a : "+s+"; var b : "+strings.ToUpper(s)+"; begin end; begin end.",
			api.Program{Name: "p", Routines: []api.Routine{{Name: "f", Vars: []api.Var{{Name: "a", T: want}, {Name: "b", T: want}}}}})
		wantRead(t, "program p; procedure f(var a : "+s+"); begin end; begin end.", api.Program{Name: "p", Routines: []api.Routine{{Name: "f", Params: []api.Param{{Name: "a", T: want, Mode: api.ByRef}}}}})
	}
	kinds := map[string]int{"integer": api.KindInt, "boolean": api.KindBool, "char": api.KindChar}
	for word, kind := range kinds {
		one(word, api.Type{Kind: kind})
		for _, size := range []int{1, 2, api.MaxSize - 1, api.MaxSize} {
			one("array["+strconv.Itoa(size)+"] of "+word, api.Type{Kind: kind, Size: size})
			one("array [ 00"+strconv.Itoa(size)+" ]\nof "+word, api.Type{Kind: kind, Size: size})
		}
	}
	one("r", api.Type{Kind: api.KindRec, Name: "r"})
	one("a", api.Type{Kind: api.KindRec, Name: "a"})
	one("int", api.Type{Kind: api.KindRec, Name: "int"})
	for _, size := range []string{"0", "000", "65", "128", "9223372036854775807", "4294967297", "18446744073"} {
		for _, ahead := range []string{"var a : ", "procedure f; var a : ", "procedure f(var a : ", "procedure f; forward; procedure f; procedure g(var x : integer; var a : "} {
			for _, behind := range []string{"] of char", "", "] of", "[", ") of x", " {n}", " end"} {
				wantUnread(t, "program p; "+ahead+"array[^"+size+behind, api.ErrNumber)
			}
		}
	}
	for _, s := range []string{
		"var^", "var ^1", "var ^var : char;", "var a^", "var a ^= char;", "var a^, b : char;", "var a : ^;", "var a : ^1;", "var a : ^record x : char; end;", "var a : ^of char;", "var a : ^(char);", "var a : ^'c';", "var a : char^", "var a : char ^b : char;", "var a : char ^begin end.", "var a : char; ^b : char;", "var a : r ^[2];", "var a : r ^. q;",
		"var a : array ^of char;", "var a : array^(2) of char;", "var a : array[^] of char;", "var a : array[^-1] of char;", "var a : array[^n] of char;", "var a : array[^'a'] of char;", "var a : array[^true] of char;", "var a : array[2 ^+ 1] of char;", "var a : array[2^) of char;", "var a : array[2] ^char;", "var a : array[2] of ^r;", "var a : array[2] of ^array[2] of char;", "var a : array[2] of ^;", "var a : array[2] of char^", "var a : array[2^, 3] of char;",
		"procedure f; begin end; ^var a : char;", "procedure f; procedure g; begin end; ^var a : char;",
	} {
		wantUnread(t, "program p; "+s, api.ErrToken)
	}
	for _, s := range []string{"var ^{n} a : char;", "var a ^{n} : char;", "var a : ^{char};", "var a : ^{r} r;", "var a : char ^{n};", "var a : array ^{n} [2] of char;", "var a : array[^{2}] of char;", "var a : array[2 ^{n}] of char;", "var a : array[2] ^{n} of char;", "var a : array[2] of ^{n} char;"} {
		wantUnread(t, "program p; "+s, api.ErrPlace)
	}
}

func TestParameters(t *testing.T) {
	one := func(s string, want ...api.Param) {
		t.Helper()
		wantRead(t, "program p; procedure f"+s+"; begin end; begin end.", api.Program{Name: "p", Routines: []api.Routine{{Name: "f", Params: want}}})
		wantRead(t, "program p; function f"+s+" : char; begin end; begin end.", api.Program{Name: "p", Routines: []api.Routine{{Name: "f", Params: want, Result: api.KindChar}}})
		wantRead(t, "program p; procedure f"+s+"; forward; procedure g; begin end; procedure f"+s+"; begin end; begin end.", api.Program{Name: "p", Routines: []api.Routine{{Name: "g"}, {Name: "f", Params: want}}})
	}
	value := func(name string, kind int) api.Param { return api.Param{Name: name, T: api.Type{Kind: kind}} }
	one("")
	one("(a : integer)", value("a", api.KindInt))
	one("(a : boolean; b : char)", value("a", api.KindBool), value("b", api.KindChar))
	one(" ( A:CHAR ;\nVAR B:R ; c:Integer )", value("a", api.KindChar), api.Param{Name: "b", T: api.Type{Kind: api.KindRec, Name: "r"}, Mode: api.ByRef}, value("c", api.KindInt))
	one("(var a : integer; var b : array[3] of boolean)", api.Param{Name: "a", T: api.Type{Kind: api.KindInt}, Mode: api.ByRef}, api.Param{Name: "b", T: api.Type{Kind: api.KindBool, Size: 3}, Mode: api.ByRef})
	one("(a : char; a : char)", value("a", api.KindChar), value("a", api.KindChar))
	for _, s := range []string{"(^)", "(^;", "(a^)", "(a ^b : char)", "(a : ^r)", "(a : ^array[2] of char)", "(a : ^)", "(a : char^", "(a : char^, b : char)", "(a : char; ^)", "(a : char;^; b : char)", "(^1 : char)", "(var ^)", "(var ^var a : char)", "(var a^, b : char)", "(var a ^b)", "(^type", "(a : char) ^(b : char)", "(a : char) ^begin", "(^procedure", "(var a : ^record", "(a : char ^]", "(a^[1] : char)", "^[a : char]"} {
		wantUnread(t, "program p; procedure f"+s, api.ErrToken)
		wantUnread(t, "program p; function f"+s, api.ErrToken)
	}
	for _, s := range []string{"(^{n} a : char)", "(a ^{n} : char)", "(a : ^{n} char)", "(a : char ^{n})", "(a : char; ^{n} b : char)", "(var ^{n} b : char)", "^{n}(a : char)", "(a : char)^{n};"} {
		wantUnread(t, "program p; procedure f"+s, api.ErrPlace)
	}
}

func TestRoutines(t *testing.T) {
	for word, kind := range map[string]int{"integer": api.KindInt, "boolean": api.KindBool, "char": api.KindChar} {
		wantRead(t, "program p; function f : "+word+"; begin end; begin end.", api.Program{Name: "p", Routines: []api.Routine{{Name: "f", Result: kind}}})
	}
	x, y := api.Var{Name: "x", T: api.Type{Kind: api.KindInt}}, api.Var{Name: "y", T: api.Type{Kind: api.KindRec, Name: "r"}}
	h := api.Routine{Name: "h", Body: []api.Stmt{put(3)}}
	g := api.Routine{Name: "g", Vars: []api.Var{y}, Inner: []api.Routine{h}, Result: api.KindBool, Body: []api.Stmt{put(2)}}
	f := api.Routine{Name: "f", Vars: []api.Var{x, y}, Inner: []api.Routine{g, h}, Body: []api.Stmt{put(1)}}
	hText := "procedure h; begin write(3); end; "
	gText := "function g : boolean; var y : r; " + hText + "begin write(2); end; "
	fText := "procedure f; var x : integer; var y : r; " + gText + hText + "begin write(1); end; "
	wantRead(t, "program p; "+fText+gText+hText+"begin write(7); end.", api.Program{Name: "p", Routines: []api.Routine{f, g, h}, Body: []api.Stmt{put(7)}})
	wantRead(t, strings.ToUpper("program p; var x : integer; "+fText+"begin end."), api.Program{Name: "p", Vars: []api.Var{x}, Routines: []api.Routine{f}})
	for _, s := range []string{
		"procedure^", "procedure ^1", "procedure ^;", "procedure ^(a : char);", "procedure ^begin", "procedure ^read;", "procedure f^", "procedure f ^: char;", "procedure f ^begin end;", "procedure f ^forward;", "procedure f; ^end;", "procedure f; ^write(1);", "procedure f; ^;", "procedure f; ^", "procedure f; ^.", "procedure f; ^type r = record x : char; end;", "procedure f; begin^", "procedure f; begin end^", "procedure f; begin end ^.", "procedure f; begin end; ^;", "procedure f; begin end; ^end", "procedure f; begin end; ^", "procedure f; begin end ^procedure",
		"function^", "function f^", "function f^;", "function f : ^;", "function f : ^r;", "function f : ^array[2] of char;", "function f : char^", "function f : char ^begin end;", "function f(a : char)^;", "function f(a : char) : ^forward;", "function ^function", "function f : char ^: char;",
		"procedure f; procedure g; begin end; ^end;", "procedure f; procedure g; begin end; begin end; begin end ^;", "procedure f; var a : char; ^write(1);", "procedure f; begin ^procedure g; begin end; end;", "procedure f; forward ^begin", "procedure f; forward^", "^forward;", "procedure f; var a : char; ^forward;", "procedure f; procedure g; begin end; ^forward;",
	} {
		wantUnread(t, "program p; "+s, api.ErrToken)
	}
}

// Great letters are small ones, in words and in names, wherever they stand.
func TestGreatLetters(t *testing.T) {
	s := "{Cc} program P; type R = record X : integer; {T} end; var A : array[3] of char; function F(B : char; var C : R) : boolean; forward; function F(B : char; var C : R) : boolean; procedure G; begin end; begin if A[1] = B then begin C.X := F(B, C); end; return True; end; begin for K := 1 downto 0 do begin read(K); end; end."
	p, d := Read(s)
	if d != (api.Diag{}) {
		t.Fatal(d)
	}
	for _, mix := range []func(string) string{strings.ToUpper, strings.ToLower} {
		q, d := Read("{Cc}" + strings.ReplaceAll(mix(s[4:]), mix("{T}"), "{T}"))
		if d != (api.Diag{}) || !tree.Same(p, q) {
			t.Fatal(d, q)
		}
	}
	if p.Before[0] != "Cc" || p.Recs[0].Fields[0].Trail[0] != "T" || !slices.Equal(tree.Names(p), []string{"p", "r", "x", "a", "f", "b", "c", "g", "k"}) {
		t.Fatal(p.Before, tree.Names(p))
	}
}

func TestWhatIsReadIsThePrintedExpression(t *testing.T) {
	for _, s := range []string{"1 + 2 * a", "(a = b) <> (c or else d)", "f(-a, not b[1], c.d)", "a and then b and c"} {
		want, d := exprpas.Read(s)
		if d.Code != api.OK {
			t.Fatal(d)
		}
		wantBody(t, "write("+s+");", api.Stmt{Op: api.StWrite, E: []api.Expr{want}})
	}
}
