package parsecee

import (
	"maps"
	"slices"
	"strconv"
	"strings"
	"testing"

	"pantograph/api"
)

// slot is a place where comments stand: a text whose ~ is there (in a line of their own, but for trailing ones), and what is read of them.
type slot struct {
	s  string
	of func(api.Program) []string
}

// slots are all that the document names.
func slots() map[string]slot {
	all := slotsOfDeclarations()
	maps.Copy(all, slotsOfStatements())
	return all
}

func slotsOfDeclarations() map[string]slot {
	rec := func(p api.Program) api.Rec { return p.Recs[0] }
	r := func(p api.Program) api.Routine { return p.Routines[0] }
	return map[string]slot{
		"program's Before":           {"~ program p; main { }", func(p api.Program) []string { return p.Before }},
		"program's Mid":              {"program p;\n~ main { }", func(p api.Program) []string { return p.Mid }},
		"Mid behind a record":        {"program p; struct r { char x; };\n~ main { }", func(p api.Program) []string { return p.Mid }},
		"Mid behind a variable":      {"program p; char a;\n~ main { }", func(p api.Program) []string { return p.Mid }},
		"Mid behind a routine":       {"program p; void f() { }\n~ main { }", func(p api.Program) []string { return p.Mid }},
		"program's End":              {"program p; main {\n~ }", func(p api.Program) []string { return p.End }},
		"End in the same line":       {"program p; main { ~ }", func(p api.Program) []string { return p.End }},
		"End behind a statement":     {"program p; main { put(1);\n~ }", func(p api.Program) []string { return p.End }},
		"program's After":            {"program p; main { }\n~", func(p api.Program) []string { return p.After }},
		"After in the same line":     {"program p; main { } ~", func(p api.Program) []string { return p.After }},
		"record's Before":            {"program p;\n~ struct r { char x; }; main { }", func(p api.Program) []string { return rec(p).Before }},
		"later record's Before":      {"program p; struct q { char x; };\n~ struct r { char x; }; main { }", func(p api.Program) []string { return p.Recs[1].Before }},
		"record's Trail":             {"program p; struct r { char x; }; ~\nmain { }", func(p api.Program) []string { return rec(p).Trail }},
		"record's End":               {"program p; struct r { char x;\n~ }; main { }", func(p api.Program) []string { return rec(p).End }},
		"field's Before":             {"program p; struct r {\n~ char x; }; main { }", func(p api.Program) []string { return rec(p).Fields[0].Before }},
		"later field's Before":       {"program p; struct r { char x;\n~ int y; }; main { }", func(p api.Program) []string { return rec(p).Fields[1].Before }},
		"field's Trail":              {"program p; struct r { char x; ~\n}; main { }", func(p api.Program) []string { return rec(p).Fields[0].Trail }},
		"variable's Before":          {"program p;\n~ char a; main { }", func(p api.Program) []string { return p.Vars[0].Before }},
		"struct's variable's Before": {"program p; ~ r a; main { }", func(p api.Program) []string { return p.Vars[0].Before }},
		"Before behind a record":     {"program p; struct r { char x; };\n~ r a; main { }", func(p api.Program) []string { return p.Vars[0].Before }},
		"later variable's Before":    {"program p; char b;\n~ char a[2]; main { }", func(p api.Program) []string { return p.Vars[1].Before }},
		"variable's Trail":           {"program p; char a; ~\nmain { }", func(p api.Program) []string { return p.Vars[0].Trail }},
		"array's Trail":              {"program p; char a[2]; ~\nr b; main { }", func(p api.Program) []string { return p.Vars[0].Trail }},
		"struct's variable's Trail":  {"program p; r a; ~\nvoid f() { } main { }", func(p api.Program) []string { return p.Vars[0].Trail }},
		"routine's Before":           {"program p;\n~ void f() { } main { }", func(p api.Program) []string { return r(p).Before }},
		"function's Before":          {"program p; char a;\n~ char f() { } main { }", func(p api.Program) []string { return r(p).Before }},
		"Before behind a heading":    {"program p; void f(); ~ void f() { } main { }", func(p api.Program) []string { return r(p).Before }},
		"later routine's Before":     {"program p; void g() { }\n~ void g$f() { } main { }", func(p api.Program) []string { return p.Routines[1].Before }},
		"routine's Trail":            {"program p; void f() { } ~\nmain { }", func(p api.Program) []string { return r(p).Trail }},
		"routine's End":              {"program p; void f() {\n~ } main { }", func(p api.Program) []string { return r(p).End }},
		"End behind its variables":   {"program p; void f() { r x;\n~ } main { }", func(p api.Program) []string { return r(p).End }},
		"routine's variable":         {"program p; void f() {\n~ char a; } main { }", func(p api.Program) []string { return r(p).Vars[0].Before }},
		"one of a struct":            {"program p; void f() { ~ r a; } main { }", func(p api.Program) []string { return r(p).Vars[0].Before }},
		"its later variable":         {"program p; void f() { r a;\n~ r b; } main { }", func(p api.Program) []string { return r(p).Vars[1].Before }},
		"routine's variable's Trail": {"program p; void f() { char a; ~\n} main { }", func(p api.Program) []string { return r(p).Vars[0].Trail }},
		"routine's statement":        {"program p; void f() {\n~ put(1); } main { }", func(p api.Program) []string { return r(p).Body[0].Before }},
		"one that has a name":        {"program p; void f() { ~ a = 1; } main { }", func(p api.Program) []string { return r(p).Body[0].Before }},
		"one behind variables":       {"program p; void f() { r a;\n~ a.b = 1; } main { }", func(p api.Program) []string { return r(p).Body[0].Before }},
		"routine's statement's":      {"program p; void f() { int a; f(); ~\n} main { }", func(p api.Program) []string { return r(p).Body[0].Trail }},
	}
}

func slotsOfStatements() map[string]slot {
	s := func(p api.Program) api.Stmt { return p.Body[0] }
	return map[string]slot{
		"statement's Before":       {"program p; main {\n~ put(1); }", func(p api.Program) []string { return s(p).Before }},
		"later statement's Before": {"program p; main { put(1);\n~ f(); }", func(p api.Program) []string { return p.Body[1].Before }},
		"statement's Trail":        {"program p; main { put(1); ~\n}", func(p api.Program) []string { return s(p).Trail }},
		"if's End":                 {"program p; main { if (a) {\n~ } }", func(p api.Program) []string { return s(p).End }},
		"End of an if with else":   {"program p; main { if (a) { b = 1;\n~ } else { } }", func(p api.Program) []string { return s(p).End }},
		"else's End2":              {"program p; main { if (a) { } else { b = 1;\n~ } }", func(p api.Program) []string { return s(p).End2 }},
		"End2 in the same line":    {"program p; main { if (a) { } else { ~ } }", func(p api.Program) []string { return s(p).End2 }},
		"if's Trail":               {"program p; main { if (a) { } ~\n}", func(p api.Program) []string { return s(p).Trail }},
		"Trail behind an else":     {"program p; main { if (a) { } else { } ~\n}", func(p api.Program) []string { return s(p).Trail }},
		"Before within an if":      {"program p; main { if (a) {\n~ put(1); } }", func(p api.Program) []string { return s(p).Body[0].Before }},
		"Before within an else":    {"program p; main { if (a) { } else {\n~ put(1); } }", func(p api.Program) []string { return s(p).Else[0].Before }},
		"Trail within an else":     {"program p; main { if (a) { } else { put(1); ~\n} }", func(p api.Program) []string { return s(p).Else[0].Trail }},
		"while's End":              {"program p; main { while (a) {\n~ } }", func(p api.Program) []string { return s(p).End }},
		"while's Trail":            {"program p; main { while (a) { } ~\n}", func(p api.Program) []string { return s(p).Trail }},
		"Trail within a while":     {"program p; main { while (a) { return; ~\n} }", func(p api.Program) []string { return s(p).Body[0].Trail }},
		"do's End":                 {"program p; main { do {\n~ } until (a); }", func(p api.Program) []string { return s(p).End }},
		"Before within a do":       {"program p; main { do {\n~ get(a); } until (a); }", func(p api.Program) []string { return s(p).Body[0].Before }},
		"do's Trail":               {"program p; main { do { } until (a); ~\n}", func(p api.Program) []string { return s(p).Trail }},
		"for's End":                {"program p; main { for (k = 1 to 2) {\n~ } }", func(p api.Program) []string { return s(p).End }},
		"for's Trail":              {"program p; main { for (k = 1 to 2) { } ~\n}", func(p api.Program) []string { return s(p).Trail }},
	}
}

// notes are comments that stand in one line.
func notes(l []string) string {
	var out []string
	for _, s := range l {
		out = append(out, "/*"+s+"*/")
	}
	return strings.Join(out, " ")
}

func numbered(count int) (l []string) {
	for i := range count {
		l = append(l, strconv.Itoa(i))
	}
	return l
}

// commentsIn counts the comments of a tree.
func commentsIn(p api.Program) int {
	n := len(p.Before) + len(p.Mid) + len(p.After) + len(p.End) + commentsInStmts(p.Body) + commentsInVars(p.Vars)
	for _, r := range p.Recs {
		n += len(r.Before) + len(r.Trail) + len(r.End)
		for _, f := range r.Fields {
			n += len(f.Before) + len(f.Trail)
		}
	}
	for _, r := range p.Routines {
		n += len(r.Before) + len(r.Trail) + len(r.End) + commentsInVars(r.Vars) + commentsInStmts(r.Body)
	}
	return n
}

func commentsInVars(l []api.Var) (n int) {
	for _, v := range l {
		n += len(v.Before) + len(v.Trail)
	}
	return n
}

func commentsInStmts(l []api.Stmt) (n int) {
	for _, s := range l {
		n += len(s.Before) + len(s.Trail) + len(s.End) + len(s.End2) + commentsInStmts(s.Body) + commentsInStmts(s.Else)
	}
	return n
}

func TestEachSlot(t *testing.T) {
	for name, x := range slots() {
		for _, l := range [][]string{{"a"}, {""}, {"a", "b"}, {"b", "a", "a"}, numbered(api.MaxItems - 1), numbered(api.MaxItems)} {
			p, d := Read(strings.Replace(x.s, "~", notes(l), 1))
			if d != (api.Diag{}) {
				t.Fatal(name, len(l), d)
			}
			if got := x.of(p); !slices.Equal(got, l) || commentsIn(p) != len(l) {
				t.Fatalf("%s: %v, want %v; %d in all", name, got, l, commentsIn(p))
			}
		}
		if p, d := Read(strings.Replace(x.s, "~", "", 1)); d.Code != api.OK || commentsIn(p) != 0 || len(x.of(p)) != 0 {
			t.Fatal(name, d)
		}
		most := notes(numbered(api.MaxItems))
		wantUnread(t, strings.Replace(x.s, "~", most+" ^/*x*/", 1), api.ErrLong)
		wantUnread(t, strings.Replace(x.s, "~", most+" ^/*x*/ /*y*/", 1), api.ErrLong)
		wantUnread(t, strings.Replace(x.s, "~", most+" ^/*x*/ = ) else", 1), api.ErrLong)
	}
}

// What a comment says is no word and no sign.
func TestCommentsThatSayWords(t *testing.T) {
	for name, x := range slots() {
		for _, said := range []string{"main", "}", "{", "else", "void f();", "int", "struct", ";", "until", "x", "1", "program", `a\*/b`, `\\`, "{a}", "/*", "f$int"} {
			p, d := Read(strings.Replace(x.s, "~", "/*"+said+"*/", 1))
			want := strings.NewReplacer(`\*/`, "*/", `\\`, `\`).Replace(said)
			if got := x.of(p); d != (api.Diag{}) || !slices.Equal(got, []string{want}) {
				t.Fatal(name, said, d, got)
			}
		}
	}
}

// A comment in the same line trails, one in the next stands ahead of what follows; and which line counts is that in which the token ahead ends.
func TestSameLineOrNext(t *testing.T) {
	for _, x := range []struct {
		s                 string
		trail, before1, e []string
	}{
		{"put(1);/*a*/put(2);", []string{"a"}, nil, nil},
		{"put(1);\n/*a*/put(2);", nil, []string{"a"}, nil},
		{"put(1); \t /*a*/\nput(2);", []string{"a"}, nil, nil},
		{"put(1);\r/*a*/\nput(2);", []string{"a"}, nil, nil},
		{"put(1);\r\n/*a*/ put(2);", nil, []string{"a"}, nil},
		{"put(1); /*a*/ /*b*//*c*/\nput(2);", []string{"a", "b", "c"}, nil, nil},
		{"put(1); /*a*/\n/*b*/ /*c*/ put(2);", []string{"a"}, []string{"b", "c"}, nil},
		{"put(1);\n/*b*/ /*c*/ put(2);", nil, []string{"b", "c"}, nil},
		{"put(1); /*a\n*/ /*b*/ put(2);", []string{"a\n", "b"}, nil, nil},
		{"put(1); /*a\n*/ /*b*/\n/*c*/ put(2);", []string{"a\n", "b"}, []string{"c"}, nil},
		{"put(1);\n/*a\n*/ /*b*/ put(2);", nil, []string{"a\n", "b"}, nil},
		{"put(1)\n;/*a*/ put(2);", []string{"a"}, nil, nil},
		{"put(1); put(2);\n/*e*/", nil, nil, []string{"e"}},
		{"put(1); /*a*/\nput(2);\n/*e*//*f*/", []string{"a"}, nil, []string{"e", "f"}},
	} {
		first, second := written(1), written(2)
		first.Trail, second.Before = x.trail, x.before1
		p := programOf(first, second)
		p.End = x.e
		wantRead(t, "program p; main { "+x.s+" }", p)
		wantBody(t, "while (a) { "+x.s+"\n}", api.Stmt{Op: api.StWhile, E: []api.Expr{variable("a")}, Body: p.Body, End: x.e})
		wantRead(t, "program p; void f() { "+x.s+"\n\n } main { }", api.Program{Name: "p", Routines: []api.Routine{{Name: "f", Body: p.Body, End: x.e}}})
		// What ends with a } has trailing comments likewise.
		loop := func(m api.Marks) api.Stmt {
			return api.Stmt{Marks: m, Op: api.StWhile, E: []api.Expr{variable("a")}}
		}
		blocks := strings.NewReplacer("put(1);", "while (a) { }", "put(1)\n;", "while (a) {\n}", "put(2);", "while (a) {}").Replace(x.s)
		q := programOf(loop(first.Marks), loop(second.Marks))
		q.End = x.e
		wantRead(t, "program p; main { "+blocks+" }", q)
		routines := strings.NewReplacer("put(1);", "void f() { }", "put(1)\n;", "void f() {\n}", "put(2);", "int g() {}").Replace(x.s)
		wantRead(t, "program p; "+routines+" main { }", api.Program{Name: "p", Mid: x.e, Routines: []api.Routine{{Marks: first.Marks, Name: "f"}, {Marks: second.Marks, Name: "g", Result: api.KindInt}}})
	}
	// Where nothing is trailed the same line is as good as the next.
	wantRead(t, "/*a*/ program p; /*b*/ main { /*c*/ } /*d*/", api.Program{Name: "p", Before: []string{"a"}, Mid: []string{"b"}, End: []string{"c"}, After: []string{"d"}})
	wantRead(t, "program p; /*b*/ char a; main { /*c*/ put(1); /*d*/ } /*e*/", api.Program{Name: "p", Vars: []api.Var{{Marks: before("b"), Name: "a", T: api.Type{Kind: api.KindChar}}},
		Body: []api.Stmt{marked(api.Marks{Before: []string{"c"}, Trail: []string{"d"}}, written(1))}, After: []string{"e"}})
	wantBody(t, "if (a) { /*a*/ put(1); /*b*/ } else { /*c*/ put(2); /*d*/\n/*e*/ } /*f*/", marked(trail("f"), api.Stmt{Op: api.StIf, E: []api.Expr{variable("a")}, More: true,
		Body: []api.Stmt{marked(api.Marks{Before: []string{"a"}, Trail: []string{"b"}}, written(1))}, Else: []api.Stmt{marked(api.Marks{Before: []string{"c"}, Trail: []string{"d"}}, written(2))}, End2: []string{"e"}}))
	wantBody(t, "do { /*a*/ } until (b); /*c*/", marked(trail("c"), api.Stmt{Op: api.StRepeat, E: []api.Expr{variable("b")}, End: []string{"a"}}))
}

func TestCommentsWhereNoneMayStand(t *testing.T) {
	wantUnreadBehind(t, "program ", api.ErrPlace, "^/*n*/ p; main { }", "p ^/*n*/; main { }", "p; main ^/*n*/ { }", "p; main\n^/*n*/ /*m*/ {", "p; int ^/*n*/", "p; r ^/*n*/")
	wantUnreadBehind(t, "program p; ", api.ErrPlace,
		"void ^/*n*/ f() { }", "void f ^/*n*/ () { }", "void f(^/*n*/) { }", "void f() ^/*n*/ { }", "void f()\n^/*n*/\n/*m*/ {", "char ^/*n*/ f$g() { }", "void f$g ^/*n*/ () { }", "void f() ^/*n*/;", "int f() ^/*n*/;", "int f ^/*n*/ () { }", "void f() { } int f ^/*n*/ () { }", "void f() { } void g() ^/*n*/;",
		"^/*n*/ void f();", "^/*n*/ /*m*/ void f(); main", "/*a*/\nchar a; /*t*/\n^/*n*/ /*m*/ void f();", "void f() { } /*t*/\n^/*n*/ void g();", "void f(); ^/*n*/ void g();", "struct r { char x; }; /*t*/ /*u*/\n ^/*n*/ void f();",
	)
	wantUnreadBehind(t, "program p; main { ", api.ErrPlace,
		"a ^/*n*/ = 1;", "a = ^/*n*/ 1;", "a = 1 ^/*n*/;", "a = 1 ^/*n*/ + 2;", "a ^/*n*/ [1] = 1;", "f ^/*n*/ ();", "f() ^/*n*/;", "f()\n^/*n*/\n;", "f(1, ^/*n*/ 2);", "f(up ^/*n*/ a);",
		"if ^/*n*/ (a) { }", "if (^/*n*/ a) { }", "if (a ^/*n*/) { }", "if (a) ^/*n*/ { }", "if (a) { } else ^/*n*/ { }",
		"while ^/*n*/ (a) { }", "while (^/*n*/ a) { }", "while (a ^/*n*/) { }", "while (a) ^/*n*/ { }",
		"do ^/*n*/ { } until (a);", "do { } ^/*n*/ until (a);", "do { } until ^/*n*/ (a);", "do { } until (^/*n*/ a);", "do { } until (a ^/*n*/);", "do { } until (a) ^/*n*/;",
		"for ^/*n*/ (k = 1 to 2) { }", "for (^/*n*/ k = 1 to 2) { }", "for (k ^/*n*/ = 1 to 2) { }", "for (k = ^/*n*/ 1 to 2) { }", "for (k = 1 ^/*n*/ to 2) { }", "for (k = 1 to ^/*n*/ 2) { }", "for (k = 1 to 2 ^/*n*/) { }", "for (k = 1 to 2) ^/*n*/ { }",
		"get ^/*n*/ (a);", "get(^/*n*/ a);", "get(a ^/*n*/);", "get(a) ^/*n*/;", "put ^/*n*/ (1);", "put(^/*n*/ 1);", "put(1 ^/*n*/);", "put(1) ^/*n*/;", "return ^/*n*/;", "return ^/*n*/ a;", "return a ^/*n*/;",
	)
	// Between a } and an else a comment may stand nowhere but behind the whole if: so the else is what may not stand there.
	wantUnreadBehind(t, "program p; main { ", api.ErrToken, "if (a) { } /*n*/ ^else { }", "if (a) { }\n/*n*/\n^else { }", "if (a) { } /*n*/ /*m*/\n/*o*/ ^else")
	// A comment that stood ahead of something else, or trails, is no fault of what follows.
	wantRead(t, "program p; void f() { } /*t*/ void g(); /*b*/ void g() { } main { }", api.Program{Name: "p", Routines: []api.Routine{{Marks: trail("t"), Name: "f"}, {Marks: before("b"), Name: "g"}}})
	wantRead(t, "program p; int a; /*t*/ void g(); void g() { } /*u*/ main { }", api.Program{Name: "p", Vars: []api.Var{{Marks: trail("t"), Name: "a", T: api.Type{Kind: api.KindInt}}}, Routines: []api.Routine{{Marks: trail("u"), Name: "g"}}})
}
