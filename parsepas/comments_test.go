package parsepas

import (
	"slices"
	"strconv"
	"strings"
	"testing"

	"pantograph/api"
)

// slots are all that the document names: a text whose ~ is where a slot's comments stand (in a line of their own, but for trailing ones), and the slot of what is read.
var slots = map[string]struct {
	s  string
	of func(api.Program) []string
}{
	"program's Before":           {"~ program p; begin end.", func(p api.Program) []string { return p.Before }},
	"program's Mid":              {"program p;\n~ begin end.", func(p api.Program) []string { return p.Mid }},
	"Mid behind a record":        {"program p; type r = record x : char; end;\n~ begin end.", func(p api.Program) []string { return p.Mid }},
	"Mid behind a variable":      {"program p; var a : char;\n~ begin end.", func(p api.Program) []string { return p.Mid }},
	"Mid behind a routine":       {"program p; procedure f; begin end;\n~ begin end.", func(p api.Program) []string { return p.Mid }},
	"program's End":              {"program p; begin\n~ end.", func(p api.Program) []string { return p.End }},
	"End behind a statement":     {"program p; begin write(1);\n~ end.", func(p api.Program) []string { return p.End }},
	"program's After":            {"program p; begin end.\n~", func(p api.Program) []string { return p.After }},
	"record's Before":            {"program p;\n~ type r = record x : char; end; begin end.", func(p api.Program) []string { return p.Recs[0].Before }},
	"later record's Before":      {"program p; type q = record x : char; end;\n~ type r = record x : char; end; begin end.", func(p api.Program) []string { return p.Recs[1].Before }},
	"record's Trail":             {"program p; type r = record x : char; end; ~\nbegin end.", func(p api.Program) []string { return p.Recs[0].Trail }},
	"record's End":               {"program p; type r = record x : char;\n~ end; begin end.", func(p api.Program) []string { return p.Recs[0].End }},
	"field's Before":             {"program p; type r = record\n~ x : char; end; begin end.", func(p api.Program) []string { return p.Recs[0].Fields[0].Before }},
	"later field's Before":       {"program p; type r = record y : char;\n~ x : char; end; begin end.", func(p api.Program) []string { return p.Recs[0].Fields[1].Before }},
	"field's Trail":              {"program p; type r = record x : char; ~\nend; begin end.", func(p api.Program) []string { return p.Recs[0].Fields[0].Trail }},
	"variable's Before":          {"program p;\n~ var a : char; begin end.", func(p api.Program) []string { return p.Vars[0].Before }},
	"Before behind a record":     {"program p; type r = record x : char; end;\n~ var a : char; begin end.", func(p api.Program) []string { return p.Vars[0].Before }},
	"later variable's Before":    {"program p; var b : char;\n~ var a : char; begin end.", func(p api.Program) []string { return p.Vars[1].Before }},
	"variable's Trail":           {"program p; var a : char; ~\nbegin end.", func(p api.Program) []string { return p.Vars[0].Trail }},
	"routine's Before":           {"program p;\n~ procedure f; begin end; begin end.", func(p api.Program) []string { return p.Routines[0].Before }},
	"function's Before":          {"program p; var a : char;\n~ function f : char; begin end; begin end.", func(p api.Program) []string { return p.Routines[0].Before }},
	"Before behind a heading":    {"program p; procedure f; forward; ~ procedure f; begin end; begin end.", func(p api.Program) []string { return p.Routines[0].Before }},
	"routine's Trail":            {"program p; procedure f; begin end; ~\nbegin end.", func(p api.Program) []string { return p.Routines[0].Trail }},
	"routine's End":              {"program p; procedure f; begin\n~ end; begin end.", func(p api.Program) []string { return p.Routines[0].End }},
	"routine's variable":         {"program p; procedure f;\n~ var a : char; begin end; begin end.", func(p api.Program) []string { return p.Routines[0].Vars[0].Before }},
	"routine's variable's Trail": {"program p; procedure f; var a : char; ~\nbegin end; begin end.", func(p api.Program) []string { return p.Routines[0].Vars[0].Trail }},
	"inner routine's Before":     {"program p; procedure f;\n~ procedure g; begin end; begin end; begin end.", func(p api.Program) []string { return p.Routines[0].Inner[0].Before }},
	"inner routine's Trail":      {"program p; procedure f; procedure g; begin end; ~\nbegin end; begin end.", func(p api.Program) []string { return p.Routines[0].Inner[0].Trail }},
	"inner routine's End":        {"program p; procedure f; procedure g; begin\n~ end; begin end; begin end.", func(p api.Program) []string { return p.Routines[0].Inner[0].End }},
	"statement's Before":         {"program p; begin\n~ write(1); end.", func(p api.Program) []string { return p.Body[0].Before }},
	"later statement's Before":   {"program p; begin write(1);\n~ f(); end.", func(p api.Program) []string { return p.Body[1].Before }},
	"statement's Trail":          {"program p; begin write(1); ~\nend.", func(p api.Program) []string { return p.Body[0].Trail }},
	"routine's statement":        {"program p; procedure f; begin\n~ write(1); end; begin end.", func(p api.Program) []string { return p.Routines[0].Body[0].Before }},
	"if's End":                   {"program p; begin if a then begin\n~ end; end.", func(p api.Program) []string { return p.Body[0].End }},
	"End of an if with else":     {"program p; begin if a then begin b := 1;\n~ end else begin end; end.", func(p api.Program) []string { return p.Body[0].End }},
	"else's End2":                {"program p; begin if a then begin end else begin b := 1;\n~ end; end.", func(p api.Program) []string { return p.Body[0].End2 }},
	"if's Trail":                 {"program p; begin if a then begin end; ~\nend.", func(p api.Program) []string { return p.Body[0].Trail }},
	"Before within an if":        {"program p; begin if a then begin\n~ write(1); end; end.", func(p api.Program) []string { return p.Body[0].Body[0].Before }},
	"Before within an else":      {"program p; begin if a then begin end else begin\n~ write(1); end; end.", func(p api.Program) []string { return p.Body[0].Else[0].Before }},
	"Trail within an else":       {"program p; begin if a then begin end else begin write(1); ~\nend; end.", func(p api.Program) []string { return p.Body[0].Else[0].Trail }},
	"while's End":                {"program p; begin while a do begin\n~ end; end.", func(p api.Program) []string { return p.Body[0].End }},
	"Trail within a while":       {"program p; begin while a do begin return; ~\nend; end.", func(p api.Program) []string { return p.Body[0].Body[0].Trail }},
	"repeat's End":               {"program p; begin repeat\n~ until a; end.", func(p api.Program) []string { return p.Body[0].End }},
	"Before within a repeat":     {"program p; begin repeat\n~ read(a); until a; end.", func(p api.Program) []string { return p.Body[0].Body[0].Before }},
	"repeat's Trail":             {"program p; begin repeat until a; ~\nend.", func(p api.Program) []string { return p.Body[0].Trail }},
	"for's End":                  {"program p; begin for k := 1 to 2 do begin\n~ end; end.", func(p api.Program) []string { return p.Body[0].End }},
	"for's Trail":                {"program p; begin for k := 1 to 2 do begin end; ~\nend.", func(p api.Program) []string { return p.Body[0].Trail }},
}

// notes are comments that stand in one line.
func notes(l []string) string {
	var out []string
	for _, s := range l {
		out = append(out, "{"+s+"}")
	}
	return strings.Join(out, " ")
}

func numbered(count int) (l []string) {
	for i := range count {
		l = append(l, strconv.Itoa(i))
	}
	return l
}

// commentsIn counts the comments of a tree.
func commentsIn(p api.Program) int {
	n := len(p.Before) + len(p.Mid) + len(p.After) + len(p.End) + commentsInStmts(p.Body) + commentsInRoutines(p.Routines)
	for _, r := range p.Recs {
		n += len(r.Before) + len(r.Trail) + len(r.End)
		for _, f := range r.Fields {
			n += len(f.Before) + len(f.Trail)
		}
	}
	return n + commentsInVars(p.Vars)
}

func commentsInVars(l []api.Var) (n int) {
	for _, v := range l {
		n += len(v.Before) + len(v.Trail)
	}
	return n
}

func commentsInRoutines(l []api.Routine) (n int) {
	for _, r := range l {
		n += len(r.Before) + len(r.Trail) + len(r.End) + commentsInVars(r.Vars) + commentsInRoutines(r.Inner) + commentsInStmts(r.Body)
	}
	return n
}

func commentsInStmts(l []api.Stmt) (n int) {
	for _, s := range l {
		n += len(s.Before) + len(s.Trail) + len(s.End) + len(s.End2) + commentsInStmts(s.Body) + commentsInStmts(s.Else)
	}
	return n
}

func TestEachSlot(t *testing.T) {
	for name, x := range slots {
		for _, l := range [][]string{{"a"}, {""}, {"a", "b"}, {"b", "a", "a"}, numbered(api.MaxItems - 1), numbered(api.MaxItems)} {
			p, d := Read(strings.Replace(x.s, "~", notes(l), 1))
			if d != (api.Diag{}) {
				t.Fatal(name, len(l), d)
			}
			if got := x.of(p); !slices.Equal(got, l) || commentsIn(p) != len(l) {
				t.Fatalf("%s: %v, want %v; %d in all", name, got, l, commentsIn(p))
			}
		}
		if p, d := Read(strings.Replace(x.s, "~", "", 1)); d.Code != api.OK || commentsIn(p) != 0 || len(x.of(p)) != 0 {
			t.Fatal(name, d)
		}
		most := notes(numbered(api.MaxItems))
		wantUnread(t, strings.Replace(x.s, "~", most+" ^{x}", 1), api.ErrLong)
		wantUnread(t, strings.Replace(x.s, "~", most+" ^{x} {y}", 1), api.ErrLong)
		wantUnread(t, strings.Replace(x.s, "~", most+" ^{x} := ) end", 1), api.ErrLong)
	}
}

// What a comment says is no word and no sign.
func TestCommentsThatSayWords(t *testing.T) {
	for name, x := range slots {
		for _, said := range []string{"begin", "end", "forward", "procedure", "var", "type", ";", ".", "until", "else", "integer", "x", "1", "program", `a\}b`, `\\`} {
			p, d := Read(strings.Replace(x.s, "~", "{"+said+"}", 1))
			want := strings.NewReplacer(`\}`, "}", `\\`, `\`).Replace(said)
			if got := x.of(p); d != (api.Diag{}) || !slices.Equal(got, []string{want}) {
				t.Fatal(name, d, got)
			}
		}
	}
}

// A comment in the same line trails, one in the next stands ahead of what follows; and which line counts is that in which the token ahead ends.
func TestSameLineOrNext(t *testing.T) {
	for _, x := range []struct {
		s                 string
		trail, before1, e []string
	}{
		{"write(1);{a}write(2);", []string{"a"}, nil, nil},
		{"write(1);\n{a}write(2);", nil, []string{"a"}, nil},
		{"write(1); \t {a}\nwrite(2);", []string{"a"}, nil, nil},
		{"write(1);\r{a}\nwrite(2);", []string{"a"}, nil, nil},
		{"write(1);\r\n{a} write(2);", nil, []string{"a"}, nil},
		{"write(1); {a} {b}{c}\nwrite(2);", []string{"a", "b", "c"}, nil, nil},
		{"write(1); {a}\n{b} {c} write(2);", []string{"a"}, []string{"b", "c"}, nil},
		{"write(1);\n{b} {c} write(2);", nil, []string{"b", "c"}, nil},
		{"write(1); {a\n} {b} write(2);", []string{"a\n", "b"}, nil, nil},
		{"write(1); {a\n} {b}\n{c} write(2);", []string{"a\n", "b"}, []string{"c"}, nil},
		{"write(1);\n{a\n} {b} write(2);", nil, []string{"a\n", "b"}, nil},
		{"write(1)\n;{a} write(2);", []string{"a"}, nil, nil},
		{"write(1); write(2);\n{e}", nil, nil, []string{"e"}},
		{"write(1); {a}\nwrite(2);\n{e}{f}", []string{"a"}, nil, []string{"e", "f"}},
	} {
		first, second := put(1), put(2)
		first.Trail, second.Before = x.trail, x.before1
		p := programOf(first, second)
		p.End = x.e
		wantRead(t, "program p; begin "+x.s+" end.", p)
		while := api.Stmt{Op: api.StWhile, E: []api.Expr{variable("a")}, Body: p.Body, End: x.e}
		wantBody(t, "while a do begin "+x.s+"\nend;", while)
		wantRead(t, "program p; procedure f; begin "+x.s+"\n\n end; begin end.", api.Program{Name: "p", Routines: []api.Routine{{Name: "f", Body: p.Body, End: x.e}}})
	}
	// Where nothing is trailed the same line is as good as the next.
	wantRead(t, "{a} program p; {b} begin {c} end. {d}", api.Program{Name: "p", Before: []string{"a"}, Mid: []string{"b"}, End: []string{"c"}, After: []string{"d"}})
	wantRead(t, "program p; {b} var a : char; begin {c} write(1); {d} end. {e}", api.Program{Name: "p", Vars: []api.Var{{Marks: before("b"), Name: "a", T: api.Type{Kind: api.KindChar}}},
		Body: []api.Stmt{marked(api.Marks{Before: []string{"c"}, Trail: []string{"d"}}, put(1))}, After: []string{"e"}})
	wantBody(t, "if a then begin {a} write(1); {b} end else begin {c} write(2); {d}\n{e} end; {f}", marked(trail("f"), api.Stmt{Op: api.StIf, E: []api.Expr{variable("a")}, More: true,
		Body: []api.Stmt{marked(api.Marks{Before: []string{"a"}, Trail: []string{"b"}}, put(1))}, Else: []api.Stmt{marked(api.Marks{Before: []string{"c"}, Trail: []string{"d"}}, put(2))}, End2: []string{"e"}}))
	wantBody(t, "repeat {a} until b; {c}", marked(trail("c"), api.Stmt{Op: api.StRepeat, E: []api.Expr{variable("b")}, End: []string{"a"}}))
}

func TestCommentsWhereNoneMayStand(t *testing.T) {
	for _, s := range []string{
		"program ^{n} p; begin end.", "program p ^{n}; begin end.", "program p; begin end ^{n}.", "program p; begin end\n^{n} {m} .", "program p; begin end ^{n} ;",
		"program p; procedure ^{n} f; begin end;", "program p; procedure f ^{n}; begin end;", "program p; function f ^{n} : char;", "program p; function f : ^{n} char;", "program p; function f : char ^{n};",
		"program p; procedure f; begin end ^{n};", "program p; procedure f; ^{n} begin", "program p; procedure f; ^{n}{m} begin", "program p; procedure f;\n\n^{n}\n{m}\nbegin end;", "program p; procedure f; ^{n} end", "program p; procedure f; ^{n} write(1);", "program p; procedure f; ^{n} ;", "program p; procedure f; ^{n} type", "program p; procedure f; ^{n}", "program p; procedure f; ^{n} {m}", "program p; procedure f; ^{n} forward;", "program p; procedure f; ^{n} {m} forward;",
		"program p; procedure f; var a : char; {t}\n^{n} begin", "program p; procedure f; var a : char;\n^{n} {m} begin", "program p; procedure f; var a : char; {t} {u}\n^{n} {m} x", "program p; procedure f; procedure g; begin end; {t}\n^{n} begin", "program p; procedure f; procedure g; begin end;\n^{n}\n", "program p; procedure f; procedure g; forward; procedure g; begin end; {t}\n^{n} begin", "program p; procedure f; {n} procedure g;^{m} begin",
		"program p; ^{n} procedure f; forward;", "program p; ^{n} {m} procedure f; forward", "program p; ^{n} function f(a : char) : char; forward ;", "program p; ^{n} procedure f; forward x", "program p; ^{n} procedure f; forward {m};", "program p; {a}\nvar a : char; {t}\n^{n} {m} procedure f; forward", "program p; procedure f; begin end; {t}\n^{n} procedure g; forward;", "program p; procedure f; forward; ^{n} procedure g; forward;", "program p; procedure f; forward ^{n};", "program p; procedure f;\n^{n} procedure g; forward;", "program p; type r = record x : char; end; {t} {u}\n ^{n} procedure f; forward;",
		"program p; begin a ^{n} := 1;", "program p; begin a := ^{n} 1;", "program p; begin a := 1 ^{n};", "program p; begin a := 1 ^{n} + 2;", "program p; begin a ^{n} [1] := 1;", "program p; begin f ^{n} ();", "program p; begin f() ^{n};", "program p; begin f()\n^{n}\n;", "program p; begin f(1, ^{n} 2);",
		"program p; begin if ^{n} a then begin end;", "program p; begin if a ^{n} then begin end;", "program p; begin if a then ^{n} begin end;", "program p; begin if a then begin end ^{n};", "program p; begin if a then begin end ^{n} else begin end;", "program p; begin if a then begin end else ^{n} begin end;", "program p; begin if a then begin end else begin end ^{n};",
		"program p; begin while ^{n} a do begin end;", "program p; begin while a ^{n} do begin end;", "program p; begin while a do ^{n} begin end;", "program p; begin while a do begin end ^{n};",
		"program p; begin repeat until ^{n} a;", "program p; begin repeat until a ^{n};",
		"program p; begin for ^{n} k := 1 to 2 do begin end;", "program p; begin for k ^{n} := 1 to 2 do begin end;", "program p; begin for k := ^{n} 1 to 2 do begin end;", "program p; begin for k := 1 ^{n} to 2 do begin end;", "program p; begin for k := 1 to ^{n} 2 do begin end;", "program p; begin for k := 1 to 2 ^{n} do begin end;", "program p; begin for k := 1 to 2 do ^{n} begin end;", "program p; begin for k := 1 to 2 do begin end ^{n};",
		"program p; begin read ^{n} (a);", "program p; begin read(^{n} a);", "program p; begin read(a ^{n});", "program p; begin read(a) ^{n};", "program p; begin write ^{n} (1);", "program p; begin write(^{n} 1);", "program p; begin write(1 ^{n});", "program p; begin write(1) ^{n};", "program p; begin return ^{n};", "program p; begin return ^{n} a;", "program p; begin return a ^{n};",
	} {
		wantUnread(t, s, api.ErrPlace)
	}
	// A comment that stood ahead of something else, or trails, is no fault of what follows.
	wantRead(t, "program p; procedure f; begin end; {t} procedure g; forward; {b} procedure g; begin end; begin end.", api.Program{Name: "p",
		Routines: []api.Routine{{Marks: trail("t"), Name: "f"}, {Marks: before("b"), Name: "g"}}})
	wantRead(t, "program p; procedure f; var a : char; {t} begin end; begin end.", api.Program{Name: "p", Routines: []api.Routine{{Name: "f", Vars: []api.Var{{Marks: trail("t"), Name: "a", T: api.Type{Kind: api.KindChar}}}}}})
	wantRead(t, "program p; procedure f; procedure g; begin end; {t} begin end; {u} begin end.", api.Program{Name: "p", Routines: []api.Routine{{Marks: trail("u"), Name: "f", Inner: []api.Routine{{Marks: trail("t"), Name: "g"}}}}})
}
