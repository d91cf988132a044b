package parsepas

import (
	"strconv"
	"strings"
	"testing"

	"pantograph/api"
	"pantograph/tree"
)

func wantFine(t *testing.T, s string) api.Program {
	t.Helper()
	p, d := Read(s)
	if d != (api.Diag{}) {
		t.Fatalf("Read(%.200q): %v", s, d)
	}
	if tree.Check(api.Pas, p) != api.OK {
		t.Fatalf("Read(%.200q) isn't right of Pas", s)
	}
	if len(Items(s)) != itemsOf(p) {
		t.Fatalf("Items(%.200q): %d, want %d", s, len(Items(s)), itemsOf(p))
	}
	return p
}

// lists are all that have elements: a text whose ~ is where they stand, an element (# is its number), and what may stand between two.
var lists = map[string]struct{ s, element, between string }{
	"records":             {"program p; ~ begin end.", "{n} type r# = record x : char; end;", "\n"},
	"fields":              {"program p; type r = record ~ end; begin end.", "{n} x : char;", "\n"},
	"variables":           {"program p; ~ begin end.", "{n} var a : char;", "\n"},
	"routine's variables": {"program p; procedure f; ~ begin end; begin end.", "{n} var a : r;", "\n"},
	"parameters":          {"program p; procedure f(~); begin end; begin end.", "a : char", ";"},
	"var parameters":      {"program p; function f(~) : char; begin end; begin end.", "var a : r", ";\n"},
	"heading's":           {"program p; function f(~) : char; forward; procedure g; begin end; function f : char; begin end; begin end.", "a : char", ";"},
	"routines":            {"program p; ~ begin end.", "{n} procedure f#; begin end;", "\n"},
	"functions":           {"program p; var a : char; ~ begin end.", "{n} function f# : char; begin end;", "\n"},
	"inner routines":      {"program p; procedure f; ~ begin end; begin end.", "{n} procedure f#; begin end;", "\n"},
	"body's":              {"program p; begin ~ end.", "{n} a:=1;", "\n"},
	"routine's body's":    {"program p; procedure f; begin ~ end; begin end.", "{n} write(1);", "\n"},
	"if's":                {"program p; begin if a then begin ~ end; end.", "{n} f();", "\n"},
	"else's":              {"program p; begin if a then begin end else begin ~ end; end.", "{n} if a then begin end;", "\n"},
	"while's":             {"program p; begin while a do begin ~ end; end.", "{n} return;", "\n"},
	"repeat's":            {"program p; begin repeat ~ until a; end.", "{n} read(a);", "\n"},
	"for's":               {"program p; begin for k := 1 to 2 do begin ~ end; end.", "{n} repeat until a;", "\n"},
}

func elements(element, between string, count int) string {
	l := make([]string, count)
	for i := range l {
		l[i] = strings.ReplaceAll(element, "#", strconv.Itoa(i))
	}
	return strings.Join(l, between)
}

// firstToken sets the ^ ahead of the first token behind an element's comments.
func firstToken(element string) string {
	if rest, ok := strings.CutPrefix(element, "{n} "); ok {
		return "{n} ^" + rest
	}
	return "^" + element
}

func TestElementsOfEachList(t *testing.T) {
	for name, x := range lists {
		most := elements(x.element, x.between, api.MaxItems)
		more := most + x.between + strings.ReplaceAll(firstToken(x.element), "#", "x")
		if name != "heading's" {
			wantFine(t, strings.Replace(x.s, "~", most, 1))
		}
		wantUnread(t, strings.Replace(x.s, "~", more, 1), api.ErrLong)
		// It is met at its first token, whatever is wrong behind it.
		at := strings.Index(more, "^")
		word := strings.FieldsFunc(more[at+1:], func(r rune) bool { return r == ' ' || r == '(' || r == ':' || r == ';' })[0]
		wantUnread(t, strings.Split(x.s, "~")[0]+more[:at]+"^"+word, api.ErrLong)
		wantUnread(t, strings.Split(x.s, "~")[0]+more[:at]+"^"+word+" ; ) 1 begin", api.ErrLong)
	}
}

// A list of each kind has its own room: none counts what stands in another one.
func TestListsCountOnTheirOwn(t *testing.T) {
	half := strings.Repeat("a:=1;", api.MaxItems/2+1)
	wantFine(t, "program p; begin if a then begin "+half+" end else begin "+half+" end; "+half+" end.")
	wantFine(t, "program p; procedure f; procedure g; begin "+half+" end; begin "+half+" end; begin "+half+" end.")
	vars := strings.Repeat("var a : char;", api.MaxItems/2+1)
	wantFine(t, "program p; "+vars+"procedure f; "+vars+"begin end; procedure g; "+vars+" begin end; begin end.")
	routines := elements("procedure f#; begin end;", "", api.MaxItems/2+1)
	wantFine(t, "program p; procedure f; "+routines+" begin end; "+strings.ReplaceAll(routines, "f", "g")+" begin end.")
	note := strings.Repeat("{n}", api.MaxItems/2+1)
	wantFine(t, "program p; begin write(1); "+note+"\n"+note+" write(2); "+note+"\n"+note+" end. "+note)
}

// What isn't what closes a list is taken for an element: ErrLong stands ahead of ErrToken.
func TestLongAheadOfToken(t *testing.T) {
	for _, name := range []string{"fields", "body's", "routine's body's", "if's", "else's", "while's", "repeat's", "for's"} {
		x := lists[name]
		most := strings.Split(x.s, "~")[0] + elements(x.element, x.between, api.MaxItems)
		for _, s := range []string{" ^;", " ^)", " ^1", " ^begin", " ^procedure", "\n{n} ^then", " {n} ^."} {
			wantUnread(t, most+s, api.ErrLong)
			wantUnread(t, strings.Replace(strings.Split(x.s, "~")[0]+elements(x.element, x.between, api.MaxItems-1)+s, "\n^", "^", 1), api.ErrToken)
		}
	}
	for _, name := range []string{"parameters", "var parameters", "heading's"} {
		x := lists[name]
		most := strings.Split(x.s, "~")[0] + elements(x.element, x.between, api.MaxItems)
		for _, s := range []string{"; ^)", "; ^1", "; ^;", ";^", "; ^{n}", "; ^forward"} {
			wantUnread(t, most+s, api.ErrLong)
		}
		wantUnread(t, most+" ^1", api.ErrToken)
		wantUnread(t, most+"^", api.ErrToken)
	}
	// Rows of declarations end with the first word that begins none: there what stands in its place is ErrToken.
	for _, name := range []string{"records", "variables", "routine's variables", "routines", "functions", "inner routines"} {
		x := lists[name]
		most := strings.Split(x.s, "~")[0] + elements(x.element, x.between, api.MaxItems)
		wantUnread(t, most+" ^;", api.ErrToken)
		wantUnread(t, most+" ^end", api.ErrToken)
	}
}

// A heading that stands ahead is no element; but where there is no room for its routine, there is none for it.
func TestForwardHeadingsAndRoom(t *testing.T) {
	list := func(from, count int, s string) string {
		var all strings.Builder
		for i := range count {
			all.WriteString(strings.ReplaceAll(s, "#", strconv.Itoa(from+i)))
		}
		return all.String()
	}
	const heading, routine = "procedure f#; forward; ", "procedure f#; begin end; "
	for _, in := range []struct{ ahead, behind string }{{"program p; ", "begin end."}, {"program p; procedure f; ", "begin end; begin end."}} {
		wantFine(t, in.ahead+list(0, api.MaxItems, heading)+list(0, api.MaxItems, routine)+in.behind)
		wantFine(t, in.ahead+list(0, api.MaxItems-1, routine)+list(api.MaxItems, 1, heading+routine)+in.behind)
		wantUnread(t, in.ahead+strings.Replace(list(0, 2*api.MaxItems, heading), "f0;", "^f0;", 1)+in.behind, api.ErrNone)
		full := in.ahead + list(0, api.MaxItems, routine)
		for _, s := range []string{"^procedure g; forward; ", "^procedure", "^function g : char; forward;", "{n}\n{m} ^procedure g; forward;", "^procedure f1; forward;", "^procedure f1; begin end;", "^function 1"} {
			wantUnread(t, full+s, api.ErrLong)
			if s != "^procedure" {
				wantUnread(t, full+s+in.behind, api.ErrLong)
			}
		}
		wantUnread(t, in.ahead+list(0, api.MaxItems+1, heading)+list(0, api.MaxItems, routine)+"^procedure f512; begin end;", api.ErrLong)
	}
}

// Comments ahead of what has no slot for them are counted as they are met, as it is not yet seen what they stand ahead of.
func TestTooManyCommentsWhereNoneMayStand(t *testing.T) {
	most := strings.Repeat("{n} ", api.MaxItems)
	for _, x := range []struct{ ahead, behind string }{{"program p; procedure f;", "begin end;"}, {"program p; procedure f; var a : char;\n", "x"}, {"program p; ", "procedure f; forward;"}, {"program p; procedure f; procedure g; forward;\n", "begin"}} {
		wantUnread(t, x.ahead+most+"^{x} "+x.behind, api.ErrLong)
	}
	wantUnread(t, "program p; procedure f; ^"+most+"begin end;", api.ErrPlace)
	wantUnread(t, "program p; ^"+most+"procedure f; forward;", api.ErrPlace)
	wantUnread(t, "program p; begin a := ^"+most+"{x} 1; end.", api.ErrPlace)
}

// blocks are all statements that have others in them.
var blocks = []struct{ ahead, behind string }{
	{"if a then begin ", " end;"}, {"if a then begin end else begin ", " end;"}, {"if a then begin ", " end else begin end;"},
	{"while a do begin ", " end;"}, {"repeat ", " until a;"}, {"for k := 1 to 2 do begin ", " end;"},
	{"write(1); while a do begin ", " end; return;"},
}

// bodies are where statements are 1 deep.
var bodies = []struct{ ahead, behind string }{
	{"program p; begin ", " end."}, {"program p; procedure f; begin ", " end; begin end."}, {"program p; procedure f; function g : char; begin ", " end; begin end; begin end."},
	{"program p; " + strings.Repeat("procedure f; ", api.MaxDepth) + "begin ", " end; " + strings.Repeat("begin end; ", api.MaxDepth-1) + "begin end."},
}

func TestDepthOfStatements(t *testing.T) {
	for _, in := range bodies {
		for i, x := range blocks {
			y := blocks[(i+1)%len(blocks)]
			nest := func(deep int, s string) string {
				return in.ahead + strings.Repeat(x.ahead+y.ahead, deep/2) + s + strings.Repeat(y.behind+x.behind, deep/2) + in.behind
			}
			// MaxDepth is even: so many stand around, and what stands in them is one deeper.
			wantFine(t, nest(api.MaxDepth-2, "write(1);"))
			wantFine(t, nest(api.MaxDepth-2, "if a then begin end; {t}\n {e}"))
			wantFine(t, nest(api.MaxDepth-2, "repeat {e} until a;"))
			wantFine(t, nest(api.MaxDepth, ""))
			wantFine(t, nest(api.MaxDepth, "{a} {b}\n{c}"))
			for _, s := range []string{"^write(1);", "^a := 1;", "{n} {m}\n^f();", "^repeat until a;", "^while a do begin end;", "{n} ^return;", "^if", "^a", "^read(f(1));", "^f() := 1;"} {
				wantUnread(t, nest(api.MaxDepth, s), api.ErrDeep)
				wantUnread(t, nest(api.MaxDepth, s)[:len(in.ahead+strings.Repeat(x.ahead+y.ahead, api.MaxDepth/2)+s)], api.ErrDeep)
			}
			// ErrDeep stands ahead of ErrToken.
			for _, s := range []string{"^)", "^;", "^begin", "^1", "{n} ^:="} {
				wantUnread(t, nest(api.MaxDepth, s), api.ErrDeep)
				wantUnread(t, nest(api.MaxDepth-2, s), api.ErrToken)
			}
			wantUnread(t, in.ahead+strings.Repeat(x.ahead, api.MaxDepth)+"^"+strings.TrimSpace(x.ahead), api.ErrDeep)
		}
	}
	// In each other, as deep as a text can hold.
	wantUnread(t, "program p; begin "+strings.Repeat("repeat ", api.MaxDepth)+"^"+strings.Repeat("repeat ", 9000), api.ErrDeep)
	// A statement behind a deep one is no deeper for it.
	deep := strings.Repeat("repeat ", api.MaxDepth) + strings.Repeat("until a; ", api.MaxDepth)
	wantFine(t, "program p; begin "+deep+deep+"while a do begin end; end.")
}

func TestDepthOfRoutines(t *testing.T) {
	for _, heading := range []string{"procedure f; ", "function f(a : char) : char; ", "{b} procedure f; var a : char; ", "procedure g; begin end; procedure f; ", "procedure f; forward; procedure f; "} {
		nest := func(deep int, s string) string {
			return "program p; " + strings.Repeat(heading, deep) + s + " " + strings.Repeat("begin end; ", deep) + "begin end."
		}
		wantFine(t, nest(1, ""))
		if strings.Contains(heading, "g;") {
			wantFine(t, nest(api.MaxDepth-1, ""))
		}
		wantFine(t, nest(api.MaxDepth, ""))
		for _, s := range []string{"^procedure h; begin end; ", "{n}\n^function h : char; ", "^procedure", "^function 1", "^procedure h; forward; ", "{n} ^procedure h; forward;"} {
			wantUnread(t, nest(api.MaxDepth, s), api.ErrDeep)
			wantUnread(t, strings.Split(nest(api.MaxDepth, s), "begin end; begin end; begin end;")[0], api.ErrDeep)
		}
		wantUnread(t, nest(api.MaxDepth, "^procedure h; "+strings.Repeat("procedure h; ", 3000)), api.ErrDeep)
	}
	// Statements of a deep routine are not counted with it, nor what stands behind one.
	deep := strings.Repeat("procedure f; ", api.MaxDepth) + "begin " + strings.Repeat("repeat ", api.MaxDepth) + strings.Repeat("until a; ", api.MaxDepth) + "end; " + strings.Repeat("begin end; ", api.MaxDepth-1)
	wantFine(t, "program p; "+deep+strings.Replace(deep, "f", "g", 1)+"begin end.")
}

// The greatest texts that are read, and some that are nearly read.
func TestGreatTexts(t *testing.T) {
	for _, s := range []string{"a:=1;", "if a then begin end;", "write(1);{a}\n"} {
		row := strings.Repeat("repeat "+strings.Repeat(s, api.MaxItems)+" until a; ", 3)
		wantFine(t, "program p; begin "+row+"end.")
		wantUnread(t, "program p; begin "+row+"end. ^end", api.ErrToken)
	}
	const count = 2500
	many := "program p; " + elements("procedure f#; forward;", "", count)
	wantUnread(t, strings.Replace(many, "f0;", "^f0;", 1), api.ErrNone)
	wantUnread(t, strings.Replace(many, "f1;", "^f1;", 1)+"procedure f0; begin end;", api.ErrNone)
	wantUnread(t, many+"procedure ^f"+strconv.Itoa(count-1)+"; forward;", api.ErrTwice)
	full := "program p; begin write(1);" + strings.Repeat(" ", api.MaxText)
	full = full[:api.MaxText-4] + "end."
	wantFine(t, full)
	wantUnread(t, "^"+full+" ", api.ErrLong)
}
