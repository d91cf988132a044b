package check

import (
	"strings"
	"testing"

	"pantograph/api"
)

// places has of each place that is in the text of a program's Body, or a routine's, a ~.
var places = []string{
	"| ~",
	"| write(1); ~ write(2);",
	"| write(1); return; ~",
	"| if true then begin ~ end;",
	"| if true then begin end else begin write(1); ~ end;",
	"| if true then begin write(1); end else begin ~ write(2); end; write(3);",
	"| while true do begin write(1); ~ end;",
	"| repeat ~ until true; write(1);",
	"| for vi := 1 to 2 do begin write(1); ~ end; write(2);",
	"| if true then begin while true do begin repeat for vi := 1 to 2 do begin if true then begin end else begin write(1); ~ end; end; until true; end; end;",
	"procedure z; begin ~ end; | write(1);",
	"procedure y; begin end; procedure z; var x : integer; procedure z1; begin end; begin write(1); ~ end; procedure z2; begin end; | z(); z2();",
	"procedure z; procedure z1; begin write(1); ~ end; begin write(2); end; | z();",
	"procedure z; procedure z1; begin write(1); end; begin ~ end; | z();",
	"procedure z; procedure z1; procedure z2; var x : integer; begin repeat ~ until true; end; begin write(1); end; begin write(2); end; | write(3);",
}

// wantStmt sets a statement wherever one may stand.
func wantStmt(t *testing.T, s string, e api.Errno) {
	t.Helper()
	for _, at := range places {
		wantTexts(t, world+strings.Replace(at, "~", word(e)+s, 1))
	}
}

// wantStmts has of each statement what is told of it.
func wantStmts(t *testing.T, l map[string]api.Errno) {
	t.Helper()
	for s, e := range l {
		wantStmt(t, s, e)
	}
}

func TestSettingStatements(t *testing.T) {
	for _, x := range operands {
		if !x.place {
			continue
		}
		for _, y := range operands {
			e := firstOf(asked(x, api.KindInt, api.KindBool, api.KindChar), asked(y, x.kind))
			wantTexts(t, world+"| "+word(e)+x.text+" := "+y.text+";")
		}
	}
	wantStmts(t, map[string]api.Errno{
		"vi := vi + 1;":      api.OK,
		"ai[ai[vi]] := 1;":   api.OK,
		"vr.b := vs.b;":      api.OK,
		"vi := vb;":          api.ErrType,
		"nope := vb;":        api.ErrNone,
		"vi := nope;":        api.ErrNone,
		"vi := one();":       api.ErrCount,
		"ai := ai;":          api.ErrType,
		"ai := nope;":        api.ErrType,
		"vr := vr;":          api.ErrType,
		"vr := one();":       api.ErrType,
		"ai[nope] := one();": api.ErrNone,
		"ai[vb] := nope;":    api.ErrType,
		"vi[1] := nope;":     api.ErrType,
		"vr.nope := vi[1];":  api.ErrNone,
		"ai.i := nope;":      api.ErrType,
	})
}

func TestCallingStatements(t *testing.T) {
	wantStmts(t, map[string]api.Errno{
		"nothing();":  api.OK,
		"q(1, vb);":   api.OK,
		"nope();":     api.ErrNone,
		"fi();":       api.ErrType,
		"fi(1);":      api.ErrType,
		"nothing(1);": api.ErrCount,
		"q(vb);":      api.ErrCount,
		"q(vb, vb);":  api.ErrType,
		"q(1, true);": api.ErrType,
	})
}

// A condition is a bool, and stands ahead of all that is within the statement.
func TestConditions(t *testing.T) {
	for _, x := range operands {
		e := asked(x, api.KindBool)
		for _, s := range []string{
			"if ~ then begin end;", "if ~ then begin write(1); end else begin write(2); end;",
			"while ~ do begin end;", "repeat until ~;", "repeat write(1); until ~;",
		} {
			wantTexts(t, world+"| "+word(e)+strings.Replace(s, "~", x.text, 1))
		}
	}
	wantStmts(t, map[string]api.Errno{
		"if vi then begin nope(); end;":                                api.ErrType,
		"if nope then begin vi := true; end else begin end;":           api.ErrNone,
		"while fi(1) do begin nope(); end;":                            api.ErrCount,
		"repeat nope(); until vi;":                                     api.ErrType,
		"repeat vi := true; until nope;":                               api.ErrNone,
		"if vb then begin {type} vi := true; end else begin x(); end;": api.OK,
		"repeat {none} nope(); vi := true; until vb;":                  api.OK,
	})
}

func TestCountingStatements(t *testing.T) {
	t.Parallel()
	for _, x := range operands {
		for _, y := range operands {
			e := firstOf(asked(x, api.KindInt), asked(y, api.KindInt))
			wantTexts(t, world+"| "+word(e)+"for vi := "+x.text+" downto "+y.text+" do begin end;")
		}
	}
	for s, e := range map[string]api.Errno{
		"vi": api.OK, "vb": api.ErrType, "vc": api.ErrType, "ai": api.ErrType, "vr": api.ErrType,
		"nope": api.ErrNone, "fi": api.ErrNone, "nothing": api.ErrNone, "r": api.ErrNone, "p": api.ErrNone, "i": api.ErrNone,
	} {
		wantStmts(t, map[string]api.Errno{
			"for " + s + " := 1 to 2 do begin end;":                         e,
			"for " + s + " := vi downto fi() do begin write(1); end;":       e,
			"for " + s + " := vb to nope do begin nope(); end;":             firstOf(e, api.ErrType),
			"for " + s + " := fi(1) to vb do begin nope(); end;":            firstOf(e, api.ErrCount),
			"for " + s + " := 1 to ai do begin nope(); end;":                firstOf(e, api.ErrType),
			"for " + s + " := 1 to 2 do begin {none} nope(); nope(); end; ": firstOf(e),
		})
	}
	wantTexts(t,
		"procedure f(a : integer; var b : integer; var c : char); var d : integer; begin for a := 1 to 2 do begin end; for b := 1 to 2 do begin end; for d := 1 to 2 do begin end; {type} for c := 1 to 2 do begin end; end;",
	)
}

func TestReadingAndWritingStatements(t *testing.T) {
	for _, x := range operands {
		wantTexts(t, world+"| "+word(asked(x, api.KindInt, api.KindBool, api.KindChar))+"write("+x.text+");")
		if x.place {
			wantTexts(t, world+"| "+word(asked(x, api.KindInt, api.KindChar))+"read("+x.text+");")
		}
	}
	wantStmts(t, map[string]api.Errno{
		"read(vi);": api.OK, "read(vc);": api.OK, "read(ac[1]);": api.OK, "read(vs.c);": api.OK,
		"read(vb);": api.ErrType, "read(ac);": api.ErrType, "read(vs);": api.ErrType, "read(vs.b);": api.ErrType,
		"read(nope);": api.ErrNone, "read(ab[fi(1)]);": api.ErrCount,
		"write(vi);": api.OK, "write(vb);": api.OK, "write(vc);": api.OK,
		"write(ac);": api.ErrType, "write(vs);": api.ErrType, "write(nope);": api.ErrNone, "write(fi(1));": api.ErrCount, "write(nothing());": api.ErrType,
	})
}

func TestReturns(t *testing.T) {
	for _, at := range places {
		wantTexts(t, world+strings.Replace(at, "~", "return;", 1))
		for _, x := range operands[:3] {
			wantTexts(t, world+strings.Replace(at, "~", "{return} return "+x.text+";", 1))
		}
		wantTexts(t, world+strings.Replace(at, "~", "{return} return nope;", 1))
	}
	for typ, kind := range types {
		if kind == 0 {
			continue
		}
		const last = "while true do begin end; if true then begin return last(); end else begin return last(); end;"
		for _, f := range []string{
			"function z : #; begin ~ " + last + " end;",
			"function z : #; begin " + last + " ~ end;",
			"function z : #; begin " + last + " if true then begin write(1); ~ end; end;",
			"procedure z; function z1 : #; begin ~ " + last + " end; begin return; end;",
			"function z : #; procedure z1; begin return; end; begin ~ " + last + " end;",
			"function z0 : char; function z1 : #; begin repeat ~ until true; " + last + " end; begin return 'a'; end;",
			"function z0 : #; begin ~ return last(); end; function z1 : char; begin return 'a'; end;",
		} {
			f = "function last : #; begin return last(); end; " + f + " | return;"
			f = strings.ReplaceAll(f, "#", typ)
			for _, x := range operands {
				wantTexts(t, world+strings.Replace(f, "~", word(asked(x, kind))+"return "+x.text+";", 1))
			}
			wantTexts(t, world+strings.Replace(f, "~", "{return} return;", 1))
		}
	}
}

func TestFirstOfSeveralItems(t *testing.T) {
	for _, s := range []string{
		"{twice} type r = record a : char; a : char; end; var a : nope; | nope();",
		"type r = record a : char; end; {none} var a : s; var a : char; | nope();",
		"type r = record a : char; end; {none} procedure a(var b : s); begin nope(); end; | nope();",
		"procedure a; {none} var b : s; procedure a; begin end; begin nope(); end; | nope();",
		"procedure a; {twice} procedure a; begin end; begin nope(); end; | nope();",
		"procedure a; begin {none} nope(); end; procedure b(b : char); begin end; | nope();",
		"procedure a; procedure b; begin {none} nope(); end; begin return 1; end; | nope();",
		"procedure a; procedure b; begin end; begin {return} return 1; end; procedure c; begin nope(); end; | nope();",
		"procedure a; begin end; {return} function c : char; begin nope(); end; | nope();",
		"| if true then begin {none} nope(); end else begin return 1; end; return 1;",
		"| if true then begin end else begin {return} return 1; end; nope();",
		"| while true do begin end; {return} return 1; nope();",
		"| {type} while 1 do begin {none} nope(); end; return 1;",
		"| write(1); {none} if nope then begin {return} return 1; end else begin {return} return 1; end;",
	} {
		wantTexts(t, s)
	}
}
