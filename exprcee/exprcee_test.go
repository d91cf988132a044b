package exprcee

import (
	"math"
	"reflect"
	"slices"
	"strconv"
	"strings"
	"testing"

	"pantograph/api"
	"pantograph/lexcee"
	"pantograph/text"
	"pantograph/tree"
)

func number(n int64) api.Expr           { return api.Expr{Op: api.ExInt, N: n} }
func truth(n int64) api.Expr            { return api.Expr{Op: api.ExBool, N: n} }
func char1(n int64) api.Expr            { return api.Expr{Op: api.ExChar, N: n} }
func variable(name string) api.Expr     { return api.Expr{Op: api.ExVar, Name: name} }
func up(name string) api.Expr           { return api.Expr{Op: api.ExUp, Name: name} }
func field(name, field string) api.Expr { return api.Expr{Op: api.ExField, Name: name, Field: field} }
func index(name string, e api.Expr) api.Expr {
	return api.Expr{Op: api.ExIndex, Name: name, L: []api.Expr{e}}
}
func call(name string, operands ...api.Expr) api.Expr {
	return api.Expr{Op: api.ExCall, Name: name, L: operands}
}
func op(of int, operands ...api.Expr) api.Expr { return api.Expr{Op: of, L: operands} }
func minus(e api.Expr) api.Expr                { return op(api.ExNeg, e) }
func not(e api.Expr) api.Expr                  { return op(api.ExNot, e) }

var a, b, c, d = variable("a"), variable("b"), variable("c"), variable("d")

func lex(t *testing.T, s string) []api.Tok {
	t.Helper()
	l, d := lexcee.All(s)
	if d.Code != api.OK {
		t.Fatalf("lexcee.All(%q): %v", s, d)
	}
	return l
}

// wantRead is P9.1 of a text that is one expression.
func wantRead(t *testing.T, s string, want api.Expr) {
	t.Helper()
	if got, d := Read(s); d != (api.Diag{}) || !tree.SameExpr(got, want) {
		t.Fatalf("Read(%q) = %v, %v, want %v", s, got, d, want)
	}
	l := lex(t, s)
	wantFrom(t, Parse, l, 0, want, len(l)-1)
	if f := tree.CheckExpr(api.Cee, want); f != api.OK {
		t.Fatalf("%q is not right of Cee", s)
	}
}

func wantUnread(t *testing.T, s string, code api.Errno, at int) {
	t.Helper()
	got, d := Read(s)
	if want := (api.Diag{Code: code, Pos: text.At(s, at)}); d != want || !tree.SameExpr(got, api.Expr{}) {
		t.Fatalf("Read(%.80q) = %v, %v, want %v alone", s, got, d, want)
	}
}

type reading func([]api.Tok, int) (api.Expr, int, api.Diag)

func wantFrom(t *testing.T, read reading, l []api.Tok, at int, want api.Expr, behind int) {
	t.Helper()
	if got, next, d := read(l, at); d != (api.Diag{}) || next != behind || !tree.SameExpr(got, want) {
		t.Fatalf("from %d: %v, %d, %v, want %v, %d", at, got, next, d, want, behind)
	}
}

func wantFault(t *testing.T, read reading, l []api.Tok, at int, code api.Errno, place api.Pos) {
	t.Helper()
	got, next, d := read(l, at)
	if want := (api.Diag{Code: code, Pos: place}); d != want || next != at || !tree.SameExpr(got, api.Expr{}) {
		t.Fatalf("from %d: %v, %d, %v, want %v alone", at, got, next, d, want)
	}
}

func TestChaptersExamples(t *testing.T) {
	wantRead(t, "-a * b + c", op(api.ExAdd, op(api.ExMul, minus(a), b), c))
	wantPrint(t, minus(op(api.ExMul, a, b)), "-(a * b)")
}

// levels are the signs of the chapter, from the loosest level on: its number is one more than its place.
var levels = [...]map[string]int{
	{"||": api.ExOrElse},
	{"&&": api.ExAndThen},
	{"|": api.ExOr},
	{"&": api.ExAnd},
	{"==": api.ExEq, "!=": api.ExNe},
	{"<": api.ExLt, "<=": api.ExLe, ">": api.ExGt, ">=": api.ExGe},
	{"+": api.ExAdd, "-": api.ExSub},
	{"*": api.ExMul, "/": api.ExDiv, "%": api.ExMod},
}

const tightest = len(levels) + 1

func TestEachSignAlone(t *testing.T) {
	for _, level := range levels {
		for sign, of := range level {
			wantRead(t, "a "+sign+" b", op(of, a, b))
			wantRead(t, "a"+sign+"b", op(of, a, b))
			wantRead(t, "(a)\n"+sign+"\n((b))", op(of, a, b))
			alone := 0
			if sign == "-" { // it may stand ahead of one
				alone = 1
			}
			wantUnread(t, sign, api.ErrToken, alone*len(sign))
			wantUnread(t, sign+" ;", api.ErrToken, alone*(len(sign)+1))
			wantUnread(t, "("+sign+")", api.ErrToken, 1+alone*len(sign))
			wantUnread(t, "a "+sign, api.ErrToken, 2+len(sign))
			wantUnread(t, "a "+sign+" ]", api.ErrToken, 3+len(sign))
			wantUnread(t, "a "+sign+" /*n*/ b", api.ErrPlace, 3+len(sign))
			wantUnread(t, "a /*n*/ "+sign+" b", api.ErrPlace, 2)
		}
	}
}

func TestEachPairOfSigns(t *testing.T) {
	for i, left := range levels {
		for k, right := range levels {
			for x, first := range left {
				for y, second := range right {
					bare := "a " + x + " b " + y + " c"
					atLeft, atRight := op(second, op(first, a, b), c), op(first, a, op(second, b, c))
					if i >= k {
						wantRead(t, bare, atLeft)
					} else {
						wantRead(t, bare, atRight)
					}
					wantRead(t, "(a "+x+" b) "+y+" c", atLeft)
					wantRead(t, "a "+x+" (b "+y+" c)", atRight)
					wantRead(t, "(a "+x+" (b "+y+" (c)))", atRight)
					if y != "-" {
						wantUnread(t, "a "+x+" "+y+" b", api.ErrToken, len("a "+x+" "))
					}
				}
			}
		}
	}
}

// A row that climbs down all levels and up again, and one that does so the other way round.
func TestAllLevelsInARow(t *testing.T) {
	signs := []string{"||", "&&", "|", "&", "==", "<", "+", "*"}
	down, mirrored := a, a
	for i := len(signs) - 1; i >= 0; i-- {
		down, mirrored = op(levels[i][signs[i]], a, down), op(levels[i][signs[i]], mirrored, a)
	}
	wantRead(t, "a || a && a | a & a == a < a + a * a", down)
	wantRead(t, "a * a + a < a == a & a | a && a || a", mirrored)
	left := op(api.ExOrElse, mirrored.L[0], down.L[1])
	wantRead(t, "a * a + a < a == a & a | a && a || a && a | a & a == a < a + a * a", left)
	wantRead(t, "a - b + c - d", op(api.ExSub, op(api.ExAdd, op(api.ExSub, a, b), c), d))
	wantRead(t, "a * b / c % d", op(api.ExMod, op(api.ExDiv, op(api.ExMul, a, b), c), d))
	wantRead(t, "a < b < c >= d", op(api.ExGe, op(api.ExLt, op(api.ExLt, a, b), c), d))
	wantRead(t, "a == b != c == d", op(api.ExEq, op(api.ExNe, op(api.ExEq, a, b), c), d))
	wantRead(t, "a * b + c * d < a - b", op(api.ExLt, op(api.ExAdd, op(api.ExMul, a, b), op(api.ExMul, c, d)), op(api.ExSub, a, b)))
	wantRead(t, "a && b || c && d || a", op(api.ExOrElse, op(api.ExOrElse, op(api.ExAndThen, a, b), op(api.ExAndThen, c, d)), a))
}

func TestSignsOfTwoBytesAreOne(t *testing.T) {
	wantRead(t, "a&&b", op(api.ExAndThen, a, b))
	wantRead(t, "a<=b", op(api.ExLe, a, b))
	wantRead(t, "a!=b", op(api.ExNe, a, b))
	wantUnread(t, "a & & b", api.ErrToken, 4)
	wantUnread(t, "a | | b", api.ErrToken, 4)
	wantUnread(t, "a < = b", api.ErrToken, 4)
	wantUnread(t, "a = = b", api.ErrToken, 2)
	wantUnread(t, "a ! = b", api.ErrToken, 2)
	wantUnread(t, "a = b", api.ErrToken, 2)
	wantUnread(t, "a &&& b", api.ErrToken, 4)
	wantUnread(t, "a === b", api.ErrToken, 4)
	wantUnread(t, "a <> b", api.ErrToken, 3)
	wantUnread(t, "a <== b", api.ErrToken, 4)
	wantRead(t, "a+-b", op(api.ExAdd, a, minus(b)))
	wantRead(t, "a<-b", op(api.ExLt, a, minus(b)))
	wantRead(t, "a&!b", op(api.ExAnd, a, not(b)))
}

func TestSignsAheadOfOne(t *testing.T) {
	for sign, of := range map[string]int{"-": api.ExNeg, "!": api.ExNot} {
		one := func(e api.Expr) api.Expr { return op(of, e) }
		for s, e := range map[string]api.Expr{"a": a, "1": number(1), "true": truth(1), "'a'": char1('a'), "f()": call("f"), "f$g(a, up b)": call("f$g", a, up("b")), "a[b]": index("a", b), "a.b": field("a", "b"), "(a)": a, "((a))": a, "(a || b)": op(api.ExOrElse, a, b), "(a * b)": op(api.ExMul, a, b)} {
			wantRead(t, sign+s, one(e))
			wantRead(t, sign+" "+s, one(e))
			wantRead(t, sign+sign+s, one(one(e)))
			wantRead(t, sign+"("+sign+s+")", one(one(e)))
			wantRead(t, "("+sign+s+")", one(e))
			wantRead(t, "-!"+s, minus(not(e)))
			wantRead(t, "!-"+s, not(minus(e)))
			wantRead(t, "!--!"+s, not(minus(minus(not(e)))))
		}
		// They bind tighter than all that stands between two.
		for _, level := range levels {
			for between, two := range level {
				wantRead(t, sign+"a "+between+" b", op(two, one(a), b))
				wantRead(t, "a "+between+" "+sign+"b", op(two, a, one(b)))
				wantRead(t, "a"+between+sign+sign+"b", op(two, a, one(one(b))))
				wantRead(t, sign+"(a "+between+" b)", one(op(two, a, b)))
			}
		}
		wantRead(t, "a["+sign+"b]", index("a", one(b)))
		wantRead(t, "f("+sign+"a, "+sign+"b, up c)", call("f", one(a), one(b), up("c")))
		wantUnread(t, sign, api.ErrToken, 1)
		wantUnread(t, sign+sign, api.ErrToken, 2)
		wantUnread(t, sign+" )", api.ErrToken, 2)
		wantUnread(t, sign+"*a", api.ErrToken, 1)
		wantUnread(t, sign+"/*n*/a", api.ErrPlace, 1)
		wantUnread(t, "a "+sign, api.ErrToken, map[string]int{"-": 3, "!": 2}[sign])
	}
	wantUnread(t, "a ! b", api.ErrToken, 2)
	wantUnread(t, "+a", api.ErrToken, 0)
	wantUnread(t, "a ++ b", api.ErrToken, 3)
	wantRead(t, "a -- b", op(api.ExSub, a, minus(b)))
}

func TestConstants(t *testing.T) {
	wantRead(t, "true", truth(1))
	wantRead(t, "false", truth(0))
	wantRead(t, "true & false", op(api.ExAnd, truth(1), truth(0)))
	wantRead(t, "0", number(0))
	wantRead(t, "007", number(7))
	wantRead(t, "9223372036854775807", number(math.MaxInt64))
	wantRead(t, "-9223372036854775807", minus(number(math.MaxInt64)))
	wantRead(t, `'\''`, char1('\''))
	wantRead(t, `'\\'`, char1('\\'))
	wantRead(t, `'"'`, char1('"'))
	for n := range int64(256) {
		two := strconv.FormatInt(n+256, 16)[1:]
		wantRead(t, `'\x`+two+`'`, char1(n))
		if n >= 0x20 && n <= 0x7e && n != '\'' && n != '\\' {
			wantRead(t, "'"+string(rune(n))+"'", char1(n))
		}
	}
	wantUnread(t, "1 2", api.ErrToken, 2)
	wantUnread(t, "'a''b'", api.ErrToken, 3)
	wantUnread(t, "true false", api.ErrToken, 5)
	wantUnread(t, "1(a)", api.ErrToken, 1)
	wantUnread(t, "true[a]", api.ErrToken, 4)
	wantUnread(t, "true()", api.ErrToken, 4)
	wantUnread(t, "'a'.b", api.ErrToken, 3)
	wantUnread(t, "(a).b", api.ErrToken, 3)
}

func TestCallsElementsFields(t *testing.T) {
	wantRead(t, "f()", call("f"))
	wantRead(t, "f ( )", call("f"))
	wantRead(t, "f(a)", call("f", a))
	wantRead(t, "f(a, b == c, (d))", call("f", a, op(api.ExEq, b, c), d))
	wantRead(t, "f(f(), f(f()))", call("f", call("f"), call("f", call("f"))))
	wantRead(t, "a[b]", index("a", b))
	wantRead(t, "a[a[f(b[1])] || 2]", index("a", op(api.ExOrElse, index("a", call("f", index("b", number(1)))), number(2))))
	wantRead(t, "a.b", field("a", "b"))
	wantRead(t, "a . b * c.d", op(api.ExMul, field("a", "b"), field("c", "d")))
	for s, at := range map[string]int{
		"f(": 2, "f(a": 3, "f(a,": 4, "f(a,)": 4, "f(,)": 2, "f(,a)": 2, "f(a b)": 4, "f(a]": 3, "f())": 3, "f()()": 3, "f(a,,b)": 4, "f(a;b)": 3,
		"a[": 2, "a[]": 2, "a[b": 3, "a[b)": 3, "a[b,c]": 3, "a[b][c]": 4, "a]": 1,
		"a.": 2, "a.1": 2, "a.int": 2, "a.(b)": 2, "a.b.c": 3, "a.b(c)": 3, "a.b[c]": 3, ".a": 0, "a..b": 2, "a.'b'": 2,
		"(": 1, "()": 1, "(a": 2, "(a]": 2, "((a)": 4, ")": 0, "(a))": 3, "(a, b)": 2, "(a)(b)": 3, "(a b)": 3,
		"a b": 2, "a 1": 2, "f (a) b": 6, "a = b": 2, "f(a = b)": 4, "{a}": 0, "a;": 1,
	} {
		wantUnread(t, s, api.ErrToken, at)
	}
	for s, at := range map[string]int{"f/*n*/()": 1, "f(/*n*/)": 2, "f(a/*n*/)": 3, "f(a,/*n*/b)": 4, "a/*n*/[b]": 1, "a[/*n*/b]": 2, "a[b/*n*/]": 3, "a./*n*/b": 2, "a/*n*/.b": 1, "(/*n*/a)": 1, "(a/*n*/)": 2, "/*n*/a": 0, "a/*n*/": 1, "f(/*up*/a)": 2, "/*(*/a": 0, "a/*+*/b": 1} {
		wantUnread(t, s, api.ErrPlace, at)
	}
}

func TestUps(t *testing.T) {
	wantRead(t, "f(up a)", call("f", up("a")))
	wantRead(t, "f$g(up x)", call("f$g", up("x")))
	wantRead(t, "f(up a, up b, up a)", call("f", up("a"), up("b"), up("a")))
	wantRead(t, "f(1, a + b, up c)", call("f", number(1), op(api.ExAdd, a, b), up("c")))
	wantRead(t, "f(g(up a), h(b, up c), up d)", call("f", call("g", up("a")), call("h", b, up("c")), up("d")))
	wantRead(t, "a[f(up i)] * -f(up j)", op(api.ExMul, index("a", call("f", up("i"))), minus(call("f", up("j")))))
	wantRead(t, "f(\nup\na\n)", call("f", up("a")))
	wantRead(t, "f(upa, up upa)", call("f", variable("upa"), up("upa")))
	for s, at := range map[string]int{
		// something else behind an up
		"f(up a, b)": 8, "f(up a, 1)": 8, "f(a, up b, c)": 11, "f(up a, up b, (up c))": 14, "f(up a, )": 8, "f(up a,": 7, "f(up a,,": 7, "f(up a, f(up b))": 8, "f(up a, -b)": 8, "f(up a, true)": 8,
		// no name, or more than one
		"f(up": 4, "f(up )": 5, "f(up 1)": 5, "f(up, a)": 4, "f(up up a)": 5, "f(up int)": 5, "f(up (a))": 5, "f(up -a)": 5, "f(up 'a')": 5, "f(up a b)": 7, "f(up a + b)": 7, "f(up a.b)": 6, "f(up a[b])": 6, "f(up a(b))": 6, "f(up a": 6, "f(up a;": 6, "f(a up b)": 4,
		// outside of a call, or within what stands in it
		"up a": 0, "up": 0, "(up a)": 1, "f((up a))": 3, "a[up b]": 2, "-up a": 1, "!up a": 1, "a + up b": 4, "f(a + up b)": 6, "f(-up a)": 3, "a.up b": 2, "f(a[up b])": 4, "a up b": 2,
	} {
		wantUnread(t, s, api.ErrToken, at)
	}
	for s, at := range map[string]int{"f(/*n*/up a)": 2, "f(up/*n*/a)": 4, "f(up a/*n*/)": 6, "f(up a,/*n*/up b)": 7, "f(up a,/*up*/b)": 7} {
		wantUnread(t, s, api.ErrPlace, at)
	}
}

func TestNamesOfParts(t *testing.T) {
	wantRead(t, "f$g()", call("f$g"))
	wantRead(t, "f$g$h(a, up b)", call("f$g$h", a, up("b")))
	wantRead(t, "f$g ( f$h(1) ) + g$f()", op(api.ExAdd, call("f$g", call("f$h", number(1))), call("g$f")))
	wantRead(t, "a[f$g(b)]", index("a", call("f$g", b)))
	wantRead(t, "-f$g(!f$g())", minus(call("f$g", not(call("f$g")))))
	for s, at := range map[string]int{
		// a variable, an element, a field, behind a dot, behind up
		"f$g": 0, " f$g": 1, "f$g + a": 0, "a + f$g": 4, "a * f$g - b": 4, "-f$g": 1, "!f$g": 1, "(f$g)": 1, "(f$g)()": 1, "a[f$g]": 2, "f(f$g)": 2, "f$g(f$g)": 4, "f(a, f$g)": 5,
		"f$g[a]": 0, "f$g.a": 0, "a.f$g": 2, "a.f$g()": 2, "a.f$g$h": 2, "f$g.f$h": 0, "f(up f$g)": 5, "f(up f$g())": 5, "f(a, up b, up f$g)": 14, "f$g(up f$g)": 7,
		// ahead of what is wrong behind it
		"f$g +": 0, "f$g ]": 0, "f$g[": 0, "f$g[]": 0, "f$g[f$h]": 0, "f$g.": 0, "f$g.1": 0, "f$g a": 0, "f$g /*n*/": 0, "f$g /*n*/ (a)": 0, "f$g)": 0, "(f$g": 1, "a + f$g *": 4, "a.f$g +": 2, "a.f$g )": 2, "a[b + f$g)": 6, "f(f$g": 2, "f(up f$g": 5, "f(up f$g, 1)": 5, "f(up f$g + 1)": 5, "f(up f$g /*n*/)": 5, "f(up f$g.a": 5, "f$g f$h": 0, "f$g; f$h": 0, "f$g(a, f$h, )": 7,
	} {
		wantUnread(t, s, api.ErrName, at)
	}
	// What is wrong ahead of it is told, and so is what is wrong within a call of such a name.
	for s, at := range map[string]int{"a f$g": 2, ") f$g": 0, "a + * f$g": 4, "(a f$g": 3, "f(a,) + f$g": 4, "f(up a, f$g)": 8, "up f$g": 0, "f$g(": 4, "f$g(a": 5, "f$g(a]": 5, "f$g(a,)": 6, "f$g()()": 5, "f$g() f$g": 6, "a.1 + f$g": 2, "f(up 1, f$g)": 5, "a = f$g": 2, "f(up a f$g)": 7} {
		wantUnread(t, s, api.ErrToken, at)
	}
	wantUnread(t, "/*n*/f$g", api.ErrPlace, 0)
	wantUnread(t, "f$g(/*n*/f$g)", api.ErrPlace, 4)
	wantUnread(t, "a./*n*/f$g", api.ErrPlace, 2)
	// Of what is read alone: the tokens behind it are not met.
	l := lex(t, "a f$g")
	wantFrom(t, Parse, l, 0, a, 1)
	wantFault(t, Parse, l, 1, api.ErrName, l[1].Pos)
	// Whatever else a name holds: a mark is a mark.
	for _, name := range []string{"$", "a$", "$a", "a$$b", "A $"} {
		l := []api.Tok{{Kind: api.TokName, Text: name}, {Kind: api.TokSign, Text: "("}, {Kind: api.TokSign, Text: ")"}}
		wantFrom(t, Parse, l, 0, call(name), 3)
		wantFault(t, Parse, l[:1], 0, api.ErrName, api.Pos{})
	}
}

func TestOperandsOfCalls(t *testing.T) {
	operands := func(count int) string { return strings.TrimSuffix(strings.Repeat("1,", count), ",") }
	ups := func(count int) string { return strings.TrimSuffix(strings.Repeat("up a,", count), ",") }
	for _, count := range []int{0, 1, 2, api.MaxItems - 1, api.MaxItems} {
		for _, s := range []string{operands(count), ups(count)} {
			if e, d := Read("f$g(" + s + ")"); d != (api.Diag{}) || e.Op != api.ExCall || len(e.L) != count {
				t.Fatal(count, d)
			}
		}
	}
	if e, d := Read("f(" + operands(12) + "," + ups(api.MaxItems-12) + ")"); d != (api.Diag{}) || len(e.L) != api.MaxItems {
		t.Fatal(d)
	}
	long := "f(" + operands(api.MaxItems+1) + ")"
	most := "f(" + operands(api.MaxItems) + ")"
	wantUnread(t, long, api.ErrLong, 0)
	wantUnread(t, "f("+ups(api.MaxItems+1)+")", api.ErrLong, 0)
	wantUnread(t, "f("+operands(12)+","+ups(api.MaxItems-11)+")", api.ErrLong, 0)
	wantUnread(t, "f("+operands(api.MaxItems)+",up a)", api.ErrLong, 0)
	wantUnread(t, "\n  "+long, api.ErrLong, 3)
	wantUnread(t, "f("+operands(30000)+")", api.ErrLong, 0)
	// At the whole's first token, wherever the call stands in it.
	for _, ahead := range []string{"(", "-", "!", "a * ", "a == ", "-a || ", "a[", "f(1, ", "((a) + "} {
		close1, _ := closers(wordsOf(lex(t, ahead)))
		behind := strings.Join(close1, "")
		wantUnread(t, "\n "+ahead+long+behind, api.ErrLong, 2)
		if _, d := Read("\n " + ahead + most + behind); d != (api.Diag{}) {
			t.Fatal(ahead, d)
		}
	}
	for _, behind := range []string{" + a", " == b", "* f()"} {
		wantUnread(t, long+behind, api.ErrLong, 0)
	}
	// What may not stand there is told ahead of it: it is met within the whole.
	wantUnread(t, long+" +", api.ErrToken, len(long)+2)
	wantUnread(t, long+" + f$g", api.ErrName, len(long)+3)
	wantUnread(t, "("+long+"]", api.ErrToken, len(long)+1)
	wantUnread(t, "f("+operands(api.MaxItems+1)+",)", api.ErrToken, len(long))
	wantUnread(t, "f("+operands(api.MaxItems+1)+"/*n*/)", api.ErrPlace, len(long)-1)
	// What stands behind the whole is not met.
	wantUnread(t, long+" a", api.ErrLong, 0)
	wantUnread(t, long+" f$g", api.ErrLong, 0)
	wantUnread(t, long+"/*n*/", api.ErrLong, 0)
	// Operands that are no call's are not counted: there are two at most.
	if e, d := Read(most + " + " + most); d != (api.Diag{}) || len(e.L) != 2 {
		t.Fatal(d)
	}
}

func wordsOf(l []api.Tok) (out []string) {
	for _, t := range l {
		out = append(out, t.Text)
	}
	return out
}

// onions are ways to set one around an expression, so that it is one deeper.
var onions = map[string]struct{ ahead, behind string }{
	"!":               {"!", ""},
	"-":               {"-", ""},
	"! in brackets":   {"!(", ")"},
	"call":            {"f(", ")"},
	"call with an up": {"f$g(", ", up a)"},
	"later operand":   {"f(1, ", ", 2)"},
	"element":         {"a[", "]"},
	"left of ||":      {"(", ") || a"},
	"right of ||":     {"a || (", ")"},
	"left of <":       {"(", ") < a"},
	"right of -":      {"a - (", ")"},
	"left of %":       {"(", ") % a"},
	"right of *":      {"a * (", ")"},
}

func TestDepth(t *testing.T) {
	for name, o := range onions {
		for _, core := range []string{"a", "1", "f()", "f(up a)", "f$g(up a, up b)", "a.b", "(a)"} {
			peeled := func(depth int) string {
				return strings.Repeat(o.ahead, depth-1) + core + strings.Repeat(o.behind, depth-1)
			}
			for _, depth := range []int{1, 2, api.MaxDepth - 1, api.MaxDepth} {
				e, d := Read(peeled(depth))
				if d != (api.Diag{}) || depthOf(e) != depth || tree.CheckExpr(api.Cee, e) != api.OK {
					t.Fatal(name, core, depth, d)
				}
			}
			for _, depth := range []int{api.MaxDepth + 1, api.MaxDepth + 2, 1000} {
				wantUnread(t, peeled(depth), api.ErrDeep, 0)
				wantUnread(t, "\n "+peeled(depth), api.ErrDeep, 2)
				wantUnread(t, "("+peeled(depth)+")", api.ErrDeep, 0)
			}
		}
	}
	for _, sign := range []string{" || ", " && ", " | ", " & ", " == ", " < ", " + ", " * "} {
		row := func(count int) string { return strings.TrimSuffix(strings.Repeat("a"+sign, count), sign) }
		if e, d := Read(row(api.MaxDepth)); d != (api.Diag{}) || depthOf(e) != api.MaxDepth {
			t.Fatal(sign, d)
		}
		wantUnread(t, row(api.MaxDepth+1), api.ErrDeep, 0)
		wantUnread(t, "f(a, "+row(api.MaxDepth)+")", api.ErrDeep, 0)
		wantUnread(t, "!("+row(api.MaxDepth)+")", api.ErrDeep, 0)
	}
}

// depthOf counts no up.
func depthOf(e api.Expr) int {
	deepest := 0
	for _, o := range e.L {
		if o.Op != api.ExUp {
			deepest = max(deepest, depthOf(o))
		}
	}
	return deepest + 1
}

func TestUpsAreNoDepth(t *testing.T) {
	within := func(core string) string {
		return strings.Repeat("!", api.MaxDepth-1) + core
	}
	for _, core := range []string{"f(up a)", "f$g(up a, up b)"} {
		if e, d := Read(within(core)); d != (api.Diag{}) || depthOf(e) != api.MaxDepth {
			t.Fatal(d)
		}
		wantUnread(t, "-"+within(core), api.ErrDeep, 0)
	}
	wantUnread(t, within("f(a, up b)"), api.ErrDeep, 0)
	wantUnread(t, within("f(f(up a))"), api.ErrDeep, 0)
}

func TestBracketsAreNoDepth(t *testing.T) {
	for _, count := range []int{1, api.MaxDepth, api.MaxDepth + 1, 1000, api.MaxText/2 - 1} {
		wantRead(t, strings.Repeat("(", count)+"a"+strings.Repeat(")", count), a)
	}
	deep := strings.Repeat("!(", api.MaxDepth-1) + "((a))" + strings.Repeat(")", api.MaxDepth-1)
	if e, d := Read("((" + deep + "))"); d != (api.Diag{}) || depthOf(e) != api.MaxDepth {
		t.Fatal(d)
	}
}

// As much nested as a text can hold: whatever it is, there is an end.
func TestDeepTexts(t *testing.T) {
	for _, piece := range []string{"(", "!", "-", "-(", "f(", "f$g(", "a[", "f(1,", "a+(", "a*", "a||", "a||(", "a<-", "f(a||!(", "f(up a,"} {
		s := strings.Repeat(piece, (api.MaxText-1)/len(piece))
		if piece == "f(up a," {
			wantUnread(t, s, api.ErrToken, len(piece))
			continue
		}
		wantUnread(t, s, api.ErrToken, len(s))
		l := lex(t, s)
		wantFault(t, Parse, l[:len(l)-1], 0, api.ErrToken, l[len(l)-2].Pos)
		wantUnread(t, s+";", api.ErrToken, len(s))
		if len(s)+3 <= api.MaxText {
			wantUnread(t, s+"f$g", api.ErrName, len(s))
		}
	}
	wantUnread(t, strings.Repeat("!", api.MaxText-1)+"a", api.ErrDeep, 0)
	wantUnread(t, strings.Repeat("a-", (api.MaxText-1)/2)+"a", api.ErrDeep, 0)
}

// More tokens than a text has: signs beside each other are a tree as deep as there are tokens.
func TestLongRowsOfTokens(t *testing.T) {
	const count = 1 << 20
	l := make([]api.Tok, 0, 2*count+1)
	for range count {
		l = append(l, api.Tok{Kind: api.TokName, Text: "a"}, api.Tok{Kind: api.TokSign, Text: "-"})
	}
	wantFault(t, Parse, l, 0, api.ErrToken, api.Pos{})
	place := api.Pos{At: 7, Line: 7, Col: 7}
	l = append(l, api.Tok{Kind: api.TokName, Text: "a"})
	l[0].Pos = place
	wantFault(t, Parse, l, 0, api.ErrDeep, place)
	wantFrom(t, Parse, l, 2*count, a, 2*count+1)
}

func TestWhichFaultIsTold(t *testing.T) {
	long := "f(" + strings.Repeat("1,", api.MaxItems) + "1)"
	deep := strings.Repeat("!", api.MaxDepth) + "a"
	wantUnread(t, deep+" == "+long, api.ErrLong, 0)
	wantUnread(t, long+" == "+deep, api.ErrLong, 0)
	wantUnread(t, strings.Repeat("f(", api.MaxDepth)+long+strings.Repeat(")", api.MaxDepth), api.ErrLong, 0)
	wantUnread(t, "f("+deep+strings.Repeat(",1", api.MaxItems)+")", api.ErrLong, 0)
	wantUnread(t, "f("+deep+strings.Repeat(",up a", api.MaxItems)+")", api.ErrLong, 0)
	wantUnread(t, deep+" +", api.ErrToken, len(deep)+2)
	wantUnread(t, deep+" + /*n*/ 1", api.ErrPlace, len(deep)+3)
	wantUnread(t, deep+" + f$g", api.ErrName, len(deep)+3)
	wantUnread(t, deep+"$b", api.ErrName, len(deep)-1)
	wantUnread(t, deep+" b", api.ErrDeep, 0)
	wantUnread(t, deep+" f$g", api.ErrDeep, 0)
	wantUnread(t, deep+" /*n*/", api.ErrDeep, 0)
	wantUnread(t, "a b /*n*/", api.ErrToken, 2)
	wantUnread(t, "a /*n*/ b", api.ErrPlace, 2)
	wantUnread(t, "(] /*n*/", api.ErrToken, 1)
	wantUnread(t, "(/*n*/]", api.ErrPlace, 1)
	// Layer 6 is asked first, about all of the text.
	wantUnread(t, ") ?", api.ErrByte, 2)
	wantUnread(t, "f$g ?", api.ErrByte, 4)
	wantUnread(t, deep+" ?", api.ErrByte, len(deep)+1)
	wantUnread(t, "a /*n*/ /*", api.ErrNote, 8)
}

func TestUnreadByLayer6(t *testing.T) {
	for _, s := range []string{"?", "a ?", "a +\n ?", "/*", "a /*", "'", "a + '", `'\n'`, `'\x1'`, `'\xAB'`, "''", "A", "9223372036854775808", "a + 9223372036854775808", strings.Repeat("a", api.MaxName+1), "f$" + strings.Repeat("a", api.MaxName+1) + "()", strings.Repeat(" ", api.MaxText+1), "1" + strings.Repeat(" ", api.MaxText), "/*" + strings.Repeat("a", api.MaxNote+1) + "*/", "a$", "a$1", "$a", "\x00", "caf\u00e9", "^", "a # b"} {
		_, want := lexcee.All(s)
		if want.Code == api.OK {
			t.Fatal(s)
		}
		if e, d := Read(s); d != want || !tree.SameExpr(e, api.Expr{}) {
			t.Fatalf("Read(%.40q) = %v, %v, want %v", s, e, d, want)
		}
	}
	wantRead(t, strings.Repeat(" ", api.MaxText-1)+"a", a)
}

func TestTextsWithoutAnExpression(t *testing.T) {
	for s, at := range map[string]int{"": 0, " ": 1, "\n\n": 2, "{": 0, "}": 0, " ;": 1, "=": 0, "==": 0, ",": 0, ".": 0, "int": 0, "while": 0, "else a": 0, "&& a": 0, "|": 0, "% a": 0, "main": 0, "program p": 0} {
		wantUnread(t, s, api.ErrToken, at)
	}
	wantUnread(t, "/*n*/", api.ErrPlace, 0)
	wantUnread(t, "\n/*n*//*m*/", api.ErrPlace, 1)
}

func TestParseFromAPlaceWithin(t *testing.T) {
	l := lex(t, "x = a + 1; /*n*/\nwhile (b[i]) f$g(c, up d)")
	// 0 x, 1 =, 2 a, 3 +, 4 1, 5 ;, 6 the comment, 7 while, 8 (, 9 b, 10 [, 11 i, 12 ], 13 ), 14 f$g, 15 (, 16 c, 17 ,, 18 up, 19 d, 20 ), 21 end
	wantFrom(t, Parse, l, 0, variable("x"), 1)
	wantFrom(t, Parse, l, 2, op(api.ExAdd, a, number(1)), 5)
	wantFrom(t, Parse, l, 4, number(1), 5)
	wantFrom(t, Parse, l, 8, index("b", variable("i")), 14)
	wantFrom(t, Parse, l, 9, index("b", variable("i")), 13)
	wantFrom(t, Parse, l, 11, variable("i"), 12)
	wantFrom(t, Parse, l, 14, call("f$g", c, up("d")), 21)
	wantFrom(t, Parse, l, 16, c, 17)
	wantFrom(t, Parse, l, 19, d, 20)
	wantFault(t, Parse, l, 15, api.ErrToken, l[17].Pos)
	for _, at := range []int{1, 3, 5, 7, 10, 12, 13, 17, 18, 20, 21} {
		wantFault(t, Parse, l, at, api.ErrToken, l[at].Pos)
	}
	wantFault(t, Parse, l, 6, api.ErrPlace, l[6].Pos)
}

func TestPlacesWhereNoTokenIs(t *testing.T) {
	l := lex(t, "x =\n a + 1")
	for _, read := range []reading{Parse, Named} {
		for _, at := range []int{math.MinInt, -len(l), -3, -1, len(l) - 1, len(l), len(l) + 1, math.MaxInt - 1, math.MaxInt} {
			wantFault(t, read, l, at, api.ErrToken, l[len(l)-1].Pos)
		}
		for _, none := range [][]api.Tok{nil, {}, l[:0], l[3:3]} {
			for _, at := range []int{math.MinInt, -1, 0, 1, math.MaxInt} {
				wantFault(t, read, none, at, api.ErrToken, api.Pos{})
			}
		}
	}
}

// The tokens need not end in a TokEnd; what is missing is one, at the last one's place.
func TestTokensWithoutAnEnd(t *testing.T) {
	for s, want := range map[string]api.Expr{"a": a, "1": number(1), "f()": call("f"), "f(1,\n up a)": call("f", number(1), up("a")), "a +\n b": op(api.ExAdd, a, b), "a[b]": index("a", b), "a.b": field("a", "b"), "(a)": a} {
		l := lex(t, s)
		wantFrom(t, Parse, l[:len(l)-1], 0, want, len(l)-1)
		wantFrom(t, Parse, l[:len(l)-1:len(l)-1], 0, want, len(l)-1)
		for cut := 1; cut < len(l)-1; cut++ {
			got, next, d := Parse(l[:cut], 0)
			if d.Code == api.OK && (next != cut || got.Op != api.ExVar) || d.Code != api.OK && (d != api.Diag{Code: api.ErrToken, Pos: l[cut-1].Pos} || next != 0) {
				t.Fatalf("%q cut at %d: %v, %d, %v", s, cut, got, next, d)
			}
		}
	}
	// A TokEnd may stand within: nothing is read beyond it.
	l := []api.Tok{{Kind: api.TokName, Text: "a"}, {Kind: api.TokEnd, Text: "+"}, {Kind: api.TokName, Text: "b"}}
	wantFrom(t, Parse, l, 0, a, 1)
	wantFrom(t, Parse, l, 2, b, 3)
}

// A token of each kind at each place of an expression at which it may not stand.
func TestKindsWhereTheyMayNotStand(t *testing.T) {
	place := api.Pos{At: 77, Line: 7, Col: 7}
	strangers := []api.Tok{{Kind: api.TokEnd}, {Kind: api.TokWord, Text: "main"}, {Kind: api.TokSign, Text: ";"}, {Kind: api.TokNote, Text: "a"}, {Kind: api.TokNote, Text: "up"}, {Kind: api.TokEnd, Text: "up"}, {Kind: -1, Text: "a"}, {Kind: 7, Text: "a"}, {Kind: math.MaxInt, Text: "("}, {Kind: api.TokWord}, {Kind: api.TokSign}}
	constants := []api.Tok{{Kind: api.TokInt, N: 1}, {Kind: api.TokChar, N: 1, Text: "up"}, {Kind: api.TokWord, Text: "true"}, {Kind: api.TokSign, Text: "!"}}
	name := api.Tok{Kind: api.TokName, Text: "n"}
	for ahead, others := range map[string][]api.Tok{
		"": nil, "-": nil, "!": nil, "a +": nil, "a == ": nil, "a &": nil, "a ||": nil, "(": nil, "f(": nil, "f(a,": nil, "a[": nil, "a * (-b - ((": nil,
		"(a": append(constants, name), "f(a": append(constants, name), "a[b": append(constants, name), "f(a, (b": append(constants, name), "f(up a": append(constants, name), "f(up a,": append(constants, name),
		"a.": constants, "f(up": constants, "f(a, up b, up": constants,
	} {
		for _, x := range append(slices.Clone(strangers), others...) {
			x.Pos = place
			l := lex(t, ahead)
			l = append(l[:len(l)-1], x, api.Tok{Kind: api.TokName, Text: "z"}, api.Tok{Kind: api.TokSign, Text: ")"})
			code := api.ErrToken
			if x.Kind == api.TokNote {
				code = api.ErrPlace
			}
			wantFault(t, Parse, l, 0, code, place)
		}
	}
}

func TestSignsAndWordsAreToldByTheirText(t *testing.T) {
	for _, s := range []string{"!a", "true", "false", "a && b || c", "a / b % c", "f(a, b[1], up d) == -c.d", "a != b", "a | b & (c)"} {
		l := lex(t, s)
		want, _, _ := Parse(l, 0)
		for i, x := range l {
			if x.Kind != api.TokWord && x.Kind != api.TokSign {
				continue
			}
			changed := slices.Clone(l)
			changed[i].Kind = api.TokWord + api.TokSign - x.Kind
			wantFrom(t, Parse, changed, 0, want, len(l)-1)
			changed[i].Kind = api.TokName
			if got, _, _ := Parse(changed, 0); tree.SameExpr(got, want) {
				t.Fatalf("%q: the name %s is a sign", s, x.Text)
			}
		}
	}
	// A name is one by its kind, whatever its text.
	for _, name := range []string{"!", "true", "up", "(", "", "A b"} {
		l := []api.Tok{{Kind: api.TokName, Text: name, N: 7}, {Kind: api.TokSign, Text: "."}, {Kind: api.TokName, Text: name, Same: true}}
		wantFrom(t, Parse, l, 0, field(name, name), 3)
		wantFrom(t, Parse, l, 2, variable(name), 3)
	}
	wantFault(t, Parse, []api.Tok{{Kind: api.TokWord, Text: "a"}}, 0, api.ErrToken, api.Pos{})
	wantFrom(t, Parse, []api.Tok{{Kind: api.TokInt, N: math.MinInt64, Text: "!"}}, 0, number(math.MinInt64), 1)
	wantFrom(t, Parse, []api.Tok{{Kind: api.TokChar, N: 1000, Text: "("}}, 0, char1(1000), 1)
	// Neither a name nor a number is the word up, whatever its text.
	l := lex(t, "f(a)")
	l[2].Text = "up"
	wantFrom(t, Parse, l, 0, call("f", variable("up")), 4)
	l[2] = api.Tok{Kind: api.TokInt, Text: "up", N: 5}
	wantFrom(t, Parse, l, 0, call("f", number(5)), 4)
}

// The longest one is read, and what stands behind it stays.
func TestWhatStandsBehind(t *testing.T) {
	for s, behind := range map[string]int{
		"a + b c": 3, "a b": 1, "a )": 1, "a ]": 1, "a ,": 1, "a ;": 1, "a = b": 1, "a == b = c": 3, "a to b": 1, "a downto b": 1, "a { b": 1, "a }": 1, "a else": 1, "a up b": 1, "a /*n*/ + b": 1, "a + b /*n*/": 3, "a 1": 1, "a ! b": 1, "a true": 1, "1 ( )": 1, "a . b . c": 3, "a [ b ] [ c ]": 4, "f ( ) ( )": 3, "( a ) ( b )": 3, "! a b": 2, "- a b": 2, "a 'c'": 1, "f$g ( ) f$g": 3, "a || b && c d": 5, "f ( up a ) , up b": 5,
	} {
		l := lex(t, s)
		if e, next, d := Parse(l, 0); d != (api.Diag{}) || next != behind || e.Op == 0 {
			t.Fatalf("%q: %v, %d, %v", s, e, next, d)
		}
		if e, d := Read(s); d != faultAt(l[behind]) || e.Op != 0 {
			t.Fatalf("%q: %v, %v", s, e, d)
		}
	}
}

func TestNamed(t *testing.T) {
	for s, want := range map[string]struct {
		e      api.Expr
		behind int
	}{
		"a": {a, 1}, "a + b": {a, 1}, "a == b": {a, 1}, "a b": {a, 1}, "a /*n*/": {a, 1}, "a = b": {a, 1}, "a || b": {a, 1}, "a ) (": {a, 1}, "a f$g": {a, 1},
		"a.b": {field("a", "b"), 3}, "a.b.c": {field("a", "b"), 3}, "a.b = 1": {field("a", "b"), 3},
		"a[b]": {index("a", b), 4}, "a[b == c] = 1": {index("a", op(api.ExEq, b, c)), 6}, "a[-1][2]": {index("a", minus(number(1))), 5},
		"f()": {call("f"), 3}, "f()()": {call("f"), 3}, "f(a, b * 1) ;": {call("f", a, op(api.ExMul, b, number(1))), 8}, "f(a)": {call("f", a), 4},
		"f$g()": {call("f$g"), 3}, "f$g(a, up b);": {call("f$g", a, up("b")), 7},
	} {
		l := lex(t, s)
		wantFrom(t, Named, l, 0, want.e, want.behind)
		shifted := append(lex(t, "x = (")[:3], l...)
		wantFrom(t, Named, shifted, 3, want.e, want.behind+3)
		wantFrom(t, Named, l[:want.behind], 0, want.e, want.behind)
	}
	for s, at := range map[string]int{"": 0, "1": 0, "'a'": 0, "true": 0, "!a": 0, "-a": 0, "(a)": 0, ")": 0, "= a": 0, "up a": 0, "int": 0, "a.": 2, "a.1": 2, "a[": 2, "a[]": 2, "a[b": 3, "a[b)": 3, "f(": 2, "f(a,)": 4, "f(a": 3, "f(up a, b)": 8, "f(up)": 4, "f$g(": 4} {
		wantFault(t, Named, lex(t, s), 0, api.ErrToken, text.At(s, at))
	}
	for s, at := range map[string]int{"/*n*/": 0, "/*n*/ a": 0, "a./*n*/b": 2, "a[/*n*/b]": 2, "f(/*n*/)": 2, "f(a/*n*/)": 3, "f(up/*n*/a)": 4} {
		wantFault(t, Named, lex(t, s), 0, api.ErrPlace, text.At(s, at))
	}
	for s, at := range map[string]int{"f$g": 0, "f$g = 1": 0, "f$g[a]": 0, "f$g.a": 0, "a.f$g": 2, "a[f$g]": 2, "f(up f$g)": 5, "f$g(f$h)": 4, "f$g /*n*/ ()": 0} {
		wantFault(t, Named, lex(t, s), 0, api.ErrName, text.At(s, at))
	}
}

func TestLimitsOfNamed(t *testing.T) {
	onion := func(ahead string, depth int, behind string) string {
		return strings.Repeat(ahead, depth-1) + "a" + strings.Repeat(behind, depth-1)
	}
	for _, peel := range [][2]string{{"f(", ")"}, {"a[", "]"}, {"f(1,", ", up a)"}} {
		l := lex(t, "x = "+onion(peel[0], api.MaxDepth, peel[1])+" + 1")
		if e, _, d := Named(l, 2); d != (api.Diag{}) || depthOf(e) != api.MaxDepth {
			t.Fatal(d)
		}
		l = lex(t, "x =\n "+onion(peel[0], api.MaxDepth+1, peel[1])+" + 1")
		wantFault(t, Named, l, 2, api.ErrDeep, api.Pos{At: 5, Line: 1, Col: 1})
	}
	most := strings.Repeat("1,", api.MaxItems-1) + "1"
	for _, s := range []string{"f(" + most + ")", "a[f(" + most + ")]", "f(f(" + most + "), 1)"} {
		if _, next, d := Named(lex(t, s), 0); d != (api.Diag{}) || next < api.MaxItems {
			t.Fatal(next, d)
		}
		more := strings.Replace(s, "1,", "1,1,", 1)
		wantFault(t, Named, lex(t, "\n"+more), 0, api.ErrLong, api.Pos{At: 1, Line: 1})
		wantFault(t, Named, lex(t, more[:len(more)-1]), 0, api.ErrToken, text.At(more, len(more)-1))
	}
	deep := strings.Repeat("!", api.MaxDepth) + "a"
	wantFault(t, Named, lex(t, "f("+deep+","+most+")"), 0, api.ErrLong, api.Pos{})
	// What is behind the named one is not counted.
	wantFrom(t, Named, lex(t, "a + "+deep), 0, a, 1)
	wantFault(t, Parse, lex(t, "a + "+deep), 0, api.ErrDeep, api.Pos{})
}

// What is handed in stays, the room behind it is not read, and what is answered is memory of its own.
func TestWhatIsHandedInStays(t *testing.T) {
	l := lex(t, "f$g(a, b + 1, up c)[2] /*n*/")
	before := slices.Clone(l)
	for _, read := range []reading{Parse, Named} {
		for at := -1; at <= len(l); at++ {
			for end := 0; end <= len(l); end++ {
				e1, n1, d1 := read(l[:end], at)
				e2, n2, d2 := read(slices.Clone(l[:end:end]), at)
				if !tree.SameExpr(e1, e2) || n1 != n2 || d1 != d2 {
					t.Fatal(at, end)
				}
			}
		}
		e, _, _ := read(l, 0)
		e.L[0].Name, e.L[1].L[0].N = "changed", 9
		e.L = append(e.L[:1], a, b, c)
		again, _, _ := read(l, 0)
		if want := call("f$g", a, op(api.ExAdd, b, number(1)), up("c")); !tree.SameExpr(again, want) {
			t.Fatal(again)
		}
	}
	if !slices.Equal(l, before) {
		t.Fatal(l)
	}
	made := func() api.Expr {
		return op(api.ExAdd, op(api.ExMul, a, op(api.ExOr, a, b)), call("f", a, minus(b), up("c")))
	}
	e := made()
	if _, f := Print(e); f != api.OK || !reflect.DeepEqual(e, made()) {
		t.Fatal(e, f)
	}
}
