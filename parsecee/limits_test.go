package parsecee

import (
	"strconv"
	"strings"
	"testing"

	"pantograph/api"
	"pantograph/tree"
)

func wantFine(t *testing.T, s string) api.Program {
	t.Helper()
	p, d := Read(s)
	if d != (api.Diag{}) {
		t.Fatalf("Read(%.200q): %v", s, d)
	}
	if tree.Check(api.Cee, p) != api.OK {
		t.Fatalf("Read(%.200q) isn't right of Cee", s)
	}
	if len(Items(s)) != itemsOf(p) {
		t.Fatalf("Items(%.200q): %d, want %d", s, len(Items(s)), itemsOf(p))
	}
	return p
}

// elementsOf is a list: a text whose ~ is where its elements stand, one of them (# is its number), what may stand between two, and, where one more than MaxItems isn't told at its very first token, how much of it must have been read.
type elementsOf struct{ s, element, between, read string }

var lists = map[string]elementsOf{
	"records":             {"program p; ~ main { }", "/*n*/ struct r# { char x; };", "\n", "struct"},
	"fields":              {"program p; struct r { ~ }; main { }", "/*n*/ char x;", "\n", "char"},
	"variables":           {"program p; ~ main { }", "/*n*/ char a;", "\n", "char a"},
	"variables of both":   {"program p; ~ int f() { } main { }", "/*n*/ r a;", "\n", "r a"},
	"arrays":              {"program p; ~ void f() { } main { }", "/*n*/ int a[2];", "\n", "int a"},
	"routine's variables": {"program p; void f() { ~ } main { }", "/*n*/ char a;", "\n", "char"},
	"its struct's":        {"program p; void f() { ~ a = 1; } main { }", "/*n*/ r a;", "\n", "r a"},
	"parameters":          {"program p; void f(~) { } main { }", "char a", ",", "char"},
	"& parameters":        {"program p; char f$g(~) { } main { }", "r &a", ",\n", "r"},
	"up parameters":       {"program p; char f$g(~) { } main { }", "up char &a[2]", ",\n", "up"},
	"heading's":           {"program p; char f(~); void g() { } char f() { } main { }", "char a", ",", "char"},
	"routines":            {"program p; ~ main { }", "/*n*/ void f#() { }", "\n", "void f"},
	"functions":           {"program p; char a; ~ main { }", "/*n*/ char f$f#() { }", "\n", "char f$f"},
	"body's":              {"program p; main { ~ }", "/*n*/ a=1;", "\n", "a"},
	"routine's body's":    {"program p; void f() { ~ } main { }", "/*n*/ put(1);", "\n", "put"},
	"one with variables":  {"program p; void f() { int a; r b; ~ } main { }", "/*n*/ a=1;", "\n", "a"},
	"if's":                {"program p; main { if (a) { ~ } }", "/*n*/ f();", "\n", "f"},
	"else's":              {"program p; main { if (a) { } else { ~ } }", "/*n*/ if (a) { }", "\n", "if"},
	"while's":             {"program p; main { while (a) { ~ } }", "/*n*/ return;", "\n", "return"},
	"do's":                {"program p; main { do { ~ } until (a); }", "/*n*/ get(a);", "\n", "get"},
	"for's":               {"program p; main { for (k = 1 to 2) { ~ } }", "/*n*/ do { } until (a);", "\n", "do"},
}

func elements(element, between string, count int) string {
	l := make([]string, count)
	for i := range l {
		l[i] = strings.ReplaceAll(element, "#", strconv.Itoa(i))
	}
	return strings.Join(l, between)
}

// firstToken sets the ^ ahead of the first token behind an element's comments.
func firstToken(element string) string {
	if rest, ok := strings.CutPrefix(element, "/*n*/ "); ok {
		return "/*n*/ ^" + rest
	}
	return "^" + element
}

func (x elementsOf) most() string {
	return strings.Split(x.s, "~")[0] + elements(x.element, x.between, api.MaxItems)
}

func TestElementsOfEachList(t *testing.T) {
	for name, x := range lists {
		more := x.most() + x.between + strings.ReplaceAll(firstToken(x.element), "#", "x")
		if name != "heading's" {
			wantFine(t, strings.Replace(x.s, "~", elements(x.element, x.between, api.MaxItems), 1))
		}
		wantUnread(t, more+strings.Split(x.s, "~")[1], api.ErrLong)
		// It is met there, whatever is wrong behind it.
		short := more[:strings.Index(more, "^")+1] + x.read
		wantUnread(t, short, api.ErrLong)
		for _, s := range []string{" ; ) 1 main", " =", " /*n*/", " 1", " {", " }", " [", " int", "\n&"} {
			wantUnread(t, short+s, api.ErrLong)
		}
	}
}

// A program's variable or routine is one only when its name has been read: what is wrong as far as there is told ahead of ErrLong.
func TestLongBehindTheName(t *testing.T) {
	for _, name := range []string{"variables", "variables of both", "arrays", "routines", "functions"} {
		most := lists[name].most() + "\n"
		wantUnreadBehind(t, most, api.ErrToken, "int ^1", "int ^;", "int ^int", "int^", "r ^;", "r ^= 1;", "r^", "void ^;", "void^", "void ^(", "void ^main")
		wantUnreadBehind(t, most, api.ErrPlace, "int ^/*n*/ a;", "r ^/*n*/ a;", "void ^/*n*/ f() { }")
		wantUnreadBehind(t, most, api.ErrName, "^r$s a;", "^r$s", "^r$s(")
	}
	for _, name := range []string{"variables", "variables of both", "arrays"} {
		most := lists[name].most() + "\n"
		wantUnreadBehind(t, most, api.ErrLong, "^int a;", "^int a", "^int a[0];", "^int a = 1;", "^r a;", "^r a", "^r a(", "^char a main", "^bool a /*n*/ ;", "/*m*/ ^bool a[65];", "/*m*/\n/*n*/ ^r a;", "^int a )")
		wantUnreadBehind(t, most, api.ErrName, "int ^a$b;", "int ^a$b", "char ^a$b[2];", "r ^a$b;", "int ^a$b /*n*/ (")
		// Behind so many variables there is room for so many routines.
		wantFine(t, most+"void f() { } int g(); int g() { } main { }")
		wantFine(t, most+"int a() { } main { }")
		wantUnread(t, most+"void a^;", api.ErrToken)
		wantUnread(t, most+"void f() { } int a^;", api.ErrToken)
		wantUnread(t, most+"void f() { } r a^;", api.ErrToken)
		wantUnread(t, most+"void f(); r a^;", api.ErrToken)
	}
	for _, name := range []string{"routines", "functions"} {
		most := lists[name].most() + "\n"
		wantUnreadBehind(t, most, api.ErrLong,
			"^int a() { }", "^int a(", "^int a", "^int a$b() { }", "^void a() { }", "^void a();", "^void a", "^void f$f1();", "^void f1();", "^char f$f1() { }", "/*m*/ ^void a();", "/*m*/ ^void a(int 1", "^void a /*n*/ ()", "^void a$b;", "^bool a$b main",
			"^int a;", "^int a$b;", "^int a[2];", "^void a;",
		)
		wantUnreadBehind(t, most, api.ErrToken, "r a^;", "r a^() { }", "r a$b^;", "r a^")
	}
}

// A list of each kind has its own room: none counts what stands in another one.
func TestListsCountOnTheirOwn(t *testing.T) {
	half := strings.Repeat("a=1;", api.MaxItems/2+1)
	wantFine(t, "program p; main { if (a) { "+half+" } else { "+half+" } "+half+" }")
	wantFine(t, "program p; void f() { "+half+" } void g() { "+half+" } main { "+half+" }")
	vars := strings.Repeat("char a;", api.MaxItems/2+1)
	wantFine(t, "program p; "+vars+" void f() { "+vars+" } int g() { "+vars+half+" } main { }")
	wantFine(t, "program p; void f("+elements("int a", ",", api.MaxItems/2+1)+") { } void g("+elements("int a", ",", api.MaxItems/2+1)+") { } main { }")
	note := strings.Repeat("/*n*/", api.MaxItems/2+1)
	wantFine(t, "program p; main { put(1); "+note+"\n"+note+" put(2); "+note+"\n"+note+" } "+note)
	wantFine(t, "program p; "+elements("struct r# { int x; };", "", api.MaxItems)+elements("r a;", "", api.MaxItems)+elements("void f#() { }", "", api.MaxItems)+"main { "+half+" }")
}

// What isn't what closes a list is taken for an element: ErrLong stands ahead of ErrToken.
func TestLongAheadOfToken(t *testing.T) {
	for _, name := range []string{"fields", "body's", "routine's body's", "one with variables", "if's", "else's", "while's", "do's", "for's"} {
		x := lists[name]
		for _, s := range []string{" ^;", " ^)", " ^1", " ^{", " ^void", "\n/*n*/ ^else", " /*n*/ ^=", "^"} {
			wantUnread(t, x.most()+s, api.ErrLong)
			wantUnread(t, strings.Split(x.s, "~")[0]+elements(x.element, x.between, api.MaxItems-1)+s, api.ErrToken)
		}
	}
	for _, name := range []string{"parameters", "& parameters", "up parameters", "heading's"} {
		x := lists[name]
		for _, s := range []string{", ^)", ", ^1", ", ^;", ",^", ", ^/*n*/", ", ^int a", ", ^&"} {
			wantUnread(t, x.most()+s, api.ErrLong)
		}
		wantUnread(t, x.most()+" ^1", api.ErrToken)
		wantUnread(t, x.most()+"^", api.ErrToken)
	}
	// A name with $ that is an element's first token is an element's all the same.
	wantUnread(t, lists["body's"].most()+" ^a$b = 1;", api.ErrLong)
	wantUnread(t, lists["its struct's"].most()+" ^r$s a;", api.ErrLong)
	wantUnread(t, lists["& parameters"].most()+", ^r$s &a", api.ErrLong)
	// Rows of declarations end with the first token that begins none: there what stands in its place is ErrToken.
	for _, name := range []string{"records", "variables", "arrays", "variables of both", "routines", "functions"} {
		wantUnread(t, lists[name].most()+" ^;", api.ErrToken)
		wantUnread(t, lists[name].most()+" ^}", api.ErrToken)
		wantUnread(t, lists[name].most()+" ^put(1);", api.ErrToken)
	}
	for _, name := range []string{"routine's variables", "its struct's"} {
		wantUnread(t, lists[name].most()+" ^;", api.ErrToken)
		wantUnread(t, lists[name].most()+" a ^;", api.ErrToken)
		wantFine(t, lists[name].most()+" a = 1; } main { }")
	}
}

// A heading with ; is no element; but where there is no room for its routine, there is none for it.
func TestHeadingsAndRoom(t *testing.T) {
	list := func(from, count int, s string) string {
		var all strings.Builder
		for i := range count {
			all.WriteString(strings.ReplaceAll(s, "#", strconv.Itoa(from+i)))
		}
		return all.String()
	}
	const heading, routine, ahead, behind = "void f#(); ", "void f#() { } ", "program p; int a; ", "main { }"
	wantFine(t, ahead+list(0, api.MaxItems, heading)+list(0, api.MaxItems, routine)+behind)
	wantFine(t, ahead+list(0, api.MaxItems-1, routine)+list(api.MaxItems, 1, heading+routine)+behind)
	wantUnread(t, ahead+strings.Replace(list(0, 2*api.MaxItems, heading), "f0(", "^f0(", 1)+behind, api.ErrNone)
	full := ahead + list(0, api.MaxItems, routine)
	for _, s := range []string{"^void g(); ", "^char g$h();", "/*n*/\n/*m*/ ^void g();", "^void f1();", "^void f1() { }", "^char g"} {
		wantUnread(t, full+s, api.ErrLong)
		wantUnread(t, full+s+behind, api.ErrLong)
	}
	wantUnread(t, ahead+list(0, api.MaxItems+1, heading)+list(0, api.MaxItems, routine)+"^void f512() { }", api.ErrLong)
}

// Comments ahead of what has no slot for them are counted as they are met, as it is not yet seen what they stand ahead of.
func TestTooManyCommentsWhereNoneMayStand(t *testing.T) {
	most := strings.Repeat("/*n*/ ", api.MaxItems)
	for _, x := range []struct{ ahead, behind string }{{"program p; ", "void f();"}, {"program p; void f();", "void g();"}, {"program p; void f() { }\n", "x"}} {
		wantUnread(t, x.ahead+most+"^/*x*/ "+x.behind, api.ErrLong)
	}
	wantUnread(t, "program p; ^"+most+"void f();", api.ErrPlace)
	wantUnread(t, "program p; main { a = ^"+most+"/*x*/ 1; }", api.ErrPlace)
	wantUnread(t, "program p; void f() ^"+most+"/*x*/ { }", api.ErrPlace)
}

// blocks are all statements that have others in them.
var blocks = []struct{ ahead, behind string }{
	{"if (a) { ", " }"}, {"if (a) { } else { ", " }"}, {"if (a) { ", " } else { }"},
	{"while (a) { ", " }"}, {"do { ", " } until (a);"}, {"for (k = 1 to 2) { ", " }"},
	{"put(1); while (a) { ", " } return;"},
}

// bodies are where statements are 1 deep.
var bodies = []struct{ ahead, behind string }{
	{"program p; main { ", " }"}, {"program p; void f() { ", " } main { }"}, {"program p; void f() { } char f$g$h() { int a; r b; ", " } main { }"},
	{"program p; void " + strings.Repeat("f$", api.MaxDepth) + "f() { ", " } main { }"},
}

func TestDepthOfStatements(t *testing.T) {
	for _, in := range bodies {
		for i, x := range blocks {
			y := blocks[(i+1)%len(blocks)]
			nest := func(deep int, s string) string {
				return in.ahead + strings.Repeat(x.ahead+y.ahead, deep/2) + s + strings.Repeat(y.behind+x.behind, deep/2) + in.behind
			}
			// MaxDepth is even: so many stand around, and what stands in them is one deeper.
			wantFine(t, nest(api.MaxDepth-2, "put(1);"))
			wantFine(t, nest(api.MaxDepth-2, "if (a) { } /*t*/\n /*e*/"))
			wantFine(t, nest(api.MaxDepth-2, "do { /*e*/ } until (a);"))
			wantFine(t, nest(api.MaxDepth, ""))
			wantFine(t, nest(api.MaxDepth, "/*a*/ /*b*/\n/*c*/"))
			for _, s := range []string{"^put(1);", "^a = 1;", "/*n*/ /*m*/\n^f();", "^do { } until (a);", "^while (a) { }", "/*n*/ ^return;", "^if", "^a", "^get(f(1));", "^f() = 1;", "^a$b = 1;", "^int a;", "^r a;"} {
				wantUnread(t, nest(api.MaxDepth, s), api.ErrDeep)
				wantUnread(t, nest(api.MaxDepth, s)[:len(in.ahead+strings.Repeat(x.ahead+y.ahead, api.MaxDepth/2)+s)], api.ErrDeep)
			}
			// ErrDeep stands ahead of ErrToken.
			for _, s := range []string{"^)", "^;", "^{", "^1", "/*n*/ ^="} {
				wantUnread(t, nest(api.MaxDepth, s), api.ErrDeep)
				wantUnread(t, nest(api.MaxDepth-2, s), api.ErrToken)
			}
			wantUnread(t, in.ahead+strings.Repeat(x.ahead, api.MaxDepth)+"^"+strings.TrimSpace(x.ahead), api.ErrDeep)
			wantUnread(t, in.ahead+strings.Repeat(x.ahead, api.MaxDepth)+"^", api.ErrDeep)
		}
	}
	// In each other, as deep as a text can hold.
	wantUnread(t, "program p; main { "+strings.Repeat("do { ", api.MaxDepth)+"^"+strings.Repeat("do { ", 9000), api.ErrDeep)
	// A statement behind a deep one is no deeper for it.
	deep := strings.Repeat("do { ", api.MaxDepth) + strings.Repeat("} until (a); ", api.MaxDepth)
	wantFine(t, "program p; void f() { "+deep+deep+" } main { "+deep+deep+"while (a) { } }")
}

// The greatest texts that are read, and some that are nearly read.
func TestGreatTexts(t *testing.T) {
	for _, s := range []string{"a=1;", "if (a) { }", "put(1);/*a*/\n"} {
		row := strings.Repeat("do { "+strings.Repeat(s, api.MaxItems)+" } until (a); ", 3)
		wantFine(t, "program p; main { "+row+"}")
		wantUnread(t, "program p; main { "+row+"} ^}", api.ErrToken)
	}
	const count = 2500
	many := "program p; " + elements("void f#();", "", count)
	wantUnread(t, strings.Replace(many, "f0(", "^f0(", 1), api.ErrNone)
	wantUnread(t, strings.Replace(many, "f1(", "^f1(", 1)+"void f0() { } main", api.ErrNone)
	wantUnread(t, many+"void ^f"+strconv.Itoa(count-1)+"();", api.ErrTwice)
	long := "program p; void " + strings.Repeat("a$", 32000) + "a() { } main { }"
	if p := wantFine(t, long); len(p.Routines[0].Name) != 64001 {
		t.Fatal(len(p.Routines[0].Name))
	}
	wantUnread(t, "program p; void ^"+strings.Repeat("a$", 32000)+"up() { } main { }", api.ErrName)
	wantUnread(t, "program p; main { ^"+strings.Repeat("a$b=", 16000), api.ErrName)
	full := "program p; main { put(1);" + strings.Repeat(" ", api.MaxText)
	full = full[:api.MaxText-1] + "}"
	wantFine(t, full)
	wantUnread(t, "^"+full+" ", api.ErrLong)
}
