package exprpas

import (
	"math"
	"reflect"
	"slices"
	"strconv"
	"strings"
	"testing"

	"pantograph/api"
	"pantograph/lexpas"
	"pantograph/text"
	"pantograph/tree"
)

func number(n int64) api.Expr           { return api.Expr{Op: api.ExInt, N: n} }
func truth(n int64) api.Expr            { return api.Expr{Op: api.ExBool, N: n} }
func char1(n int64) api.Expr            { return api.Expr{Op: api.ExChar, N: n} }
func variable(name string) api.Expr     { return api.Expr{Op: api.ExVar, Name: name} }
func field(name, field string) api.Expr { return api.Expr{Op: api.ExField, Name: name, Field: field} }
func index(name string, e api.Expr) api.Expr {
	return api.Expr{Op: api.ExIndex, Name: name, L: []api.Expr{e}}
}
func call(name string, operands ...api.Expr) api.Expr {
	return api.Expr{Op: api.ExCall, Name: name, L: operands}
}
func op(of int, operands ...api.Expr) api.Expr { return api.Expr{Op: of, L: operands} }

var a, b, c, d = variable("a"), variable("b"), variable("c"), variable("d")

func lex(t *testing.T, s string) []api.Tok {
	t.Helper()
	l, d := lexpas.All(s)
	if d.Code != api.OK {
		t.Fatalf("lexpas.All(%q): %v", s, d)
	}
	return l
}

func wantRead(t *testing.T, s string, want api.Expr) {
	t.Helper()
	if got, d := Read(s); d != (api.Diag{}) || !tree.SameExpr(got, want) {
		t.Fatalf("Read(%q) = %v, %v, want %v", s, got, d, want)
	}
	l := lex(t, s)
	if got, next, d := Parse(l, 0); d != (api.Diag{}) || next != len(l)-1 || !tree.SameExpr(got, want) {
		t.Fatalf("Parse(%q) = %v, %d, %v, want %v", s, got, next, d, want)
	}
}

func wantUnread(t *testing.T, s string, code api.Errno, at int) {
	t.Helper()
	got, d := Read(s)
	if want := (api.Diag{Code: code, Pos: text.At(s, at)}); d != want || !tree.SameExpr(got, api.Expr{}) {
		t.Fatalf("Read(%.80q) = %v, %v, want %v alone", s, got, d, want)
	}
}

type reading func([]api.Tok, int) (api.Expr, int, api.Diag)

func wantFrom(t *testing.T, read reading, l []api.Tok, at int, want api.Expr, behind int) {
	t.Helper()
	if got, next, d := read(l, at); d != (api.Diag{}) || next != behind || !tree.SameExpr(got, want) {
		t.Fatalf("from %d: %v, %d, %v, want %v, %d", at, got, next, d, want, behind)
	}
}

func wantFault(t *testing.T, read reading, l []api.Tok, at int, code api.Errno, place api.Pos) {
	t.Helper()
	got, next, d := read(l, at)
	if want := (api.Diag{Code: code, Pos: place}); d != want || next != at || !tree.SameExpr(got, api.Expr{}) {
		t.Fatalf("from %d: %v, %d, %v, want %v alone", at, got, next, d, want)
	}
}

func TestChaptersExamples(t *testing.T) {
	wantRead(t, "-a * b + c", op(api.ExAdd, op(api.ExNeg, op(api.ExMul, a, b)), c))
	wantPrint(t, op(api.ExMul, op(api.ExNeg, a), b), "(-a) * b")
}

// levels are the signs of the chapter, from the loosest level on.
var levels = [][]struct {
	sign string
	op   int
}{
	{{"=", api.ExEq}, {"<>", api.ExNe}, {"<", api.ExLt}, {"<=", api.ExLe}, {">", api.ExGt}, {">=", api.ExGe}},
	{{"+", api.ExAdd}, {"-", api.ExSub}, {"or", api.ExOr}, {"or else", api.ExOrElse}},
	{{"*", api.ExMul}, {"div", api.ExDiv}, {"mod", api.ExMod}, {"and", api.ExAnd}, {"and then", api.ExAndThen}},
}

func TestEachSignAlone(t *testing.T) {
	for _, level := range levels {
		for _, x := range level {
			wantRead(t, "a "+x.sign+" b", op(x.op, a, b))
			wantRead(t, "(a) "+strings.ToUpper(x.sign)+"\n((b))", op(x.op, a, b))
			wantUnread(t, x.sign, api.ErrToken, len(x.sign)*neg(x.sign))
			wantUnread(t, x.sign+" ;", api.ErrToken, (len(x.sign)+1)*neg(x.sign))
			wantUnread(t, "a "+x.sign, api.ErrToken, 2+len(x.sign))
			wantUnread(t, "a "+x.sign+" ]", api.ErrToken, 3+len(x.sign))
			wantUnread(t, "a "+x.sign+" {n}", api.ErrPlace, 3+len(x.sign))
		}
	}
}

// neg is 1 of the sign that may stand ahead of one.
func neg(sign string) int {
	if sign == "-" {
		return 1
	}
	return 0
}

func TestEachPairOfSigns(t *testing.T) {
	for i, left := range levels {
		for k, right := range levels {
			for _, x := range left {
				for _, y := range right {
					bare := "a " + x.sign + " b " + y.sign + " c"
					atLeft, atRight := op(y.op, op(x.op, a, b), c), op(x.op, a, op(y.op, b, c))
					switch {
					case i == 0 && k == 0:
						wantUnread(t, bare, api.ErrToken, len("a "+x.sign+" b "))
					case i >= k:
						wantRead(t, bare, atLeft)
					default:
						wantRead(t, bare, atRight)
					}
					wantRead(t, "(a "+x.sign+" b) "+y.sign+" c", atLeft)
					wantRead(t, "a "+x.sign+" (b "+y.sign+" c)", atRight)
					wantRead(t, "(a "+x.sign+" (b "+y.sign+" (c)))", atRight)
				}
			}
		}
	}
}

func TestSignsInARow(t *testing.T) {
	wantRead(t, "a - b + c - d", op(api.ExSub, op(api.ExAdd, op(api.ExSub, a, b), c), d))
	wantRead(t, "a * b div c mod d", op(api.ExMod, op(api.ExDiv, op(api.ExMul, a, b), c), d))
	wantRead(t, "a * b + c * d = a + b * c - d", op(api.ExEq, op(api.ExAdd, op(api.ExMul, a, b), op(api.ExMul, c, d)), op(api.ExSub, op(api.ExAdd, a, op(api.ExMul, b, c)), d)))
	wantRead(t, "a=b", op(api.ExEq, a, b))
	wantRead(t, "a<>b", op(api.ExNe, a, b))
	wantRead(t, "a-1", op(api.ExSub, a, number(1)))
	wantUnread(t, "a < = b", api.ErrToken, 4)
	wantUnread(t, "a := b", api.ErrToken, 2)
	wantUnread(t, "a < b < c", api.ErrToken, 6)
	wantRead(t, "(a < b) < c", op(api.ExLt, op(api.ExLt, a, b), c))
}

func TestNegAhead(t *testing.T) {
	minus := func(e api.Expr) api.Expr { return op(api.ExNeg, e) }
	wantRead(t, "-a", minus(a))
	wantRead(t, "- 1", minus(number(1)))
	wantRead(t, "-a * b div c", minus(op(api.ExDiv, op(api.ExMul, a, b), c)))
	wantRead(t, "-a - b", op(api.ExSub, minus(a), b))
	wantRead(t, "-a + b * c", op(api.ExAdd, minus(a), op(api.ExMul, b, c)))
	wantRead(t, "-not a and b", minus(op(api.ExAnd, op(api.ExNot, a), b)))
	wantRead(t, "-(-a)", minus(minus(a)))
	wantRead(t, "(-a)", minus(a))
	wantRead(t, "(-a) * b", op(api.ExMul, minus(a), b))
	wantRead(t, "a * (-b)", op(api.ExMul, a, minus(b)))
	wantRead(t, "a - (-b)", op(api.ExSub, a, minus(b)))
	wantRead(t, "-(a + b)", minus(op(api.ExAdd, a, b)))
	wantRead(t, "not (-a)", op(api.ExNot, minus(a)))
	wantRead(t, "-a = -b", op(api.ExEq, minus(a), minus(b)))
	wantRead(t, "a[-1]", index("a", minus(number(1))))
	wantRead(t, "f(-a, -b)", call("f", minus(a), minus(b)))
	wantUnread(t, "--a", api.ErrToken, 1)
	wantUnread(t, "- -a", api.ErrToken, 2)
	wantUnread(t, "a - -b", api.ErrToken, 4)
	wantUnread(t, "a + -b", api.ErrToken, 4)
	wantUnread(t, "a * -b", api.ErrToken, 4)
	wantUnread(t, "a or else -b", api.ErrToken, 10)
	wantUnread(t, "not -a", api.ErrToken, 4)
	wantUnread(t, "+a", api.ErrToken, 0)
	wantUnread(t, "-", api.ErrToken, 1)
	wantUnread(t, "(-)", api.ErrToken, 2)
}

func TestNot(t *testing.T) {
	not := func(e api.Expr) api.Expr { return op(api.ExNot, e) }
	wantRead(t, "not a", not(a))
	wantRead(t, "not not a", not(not(a)))
	wantRead(t, "not(not(a))", not(not(a)))
	wantRead(t, "not a and b", op(api.ExAnd, not(a), b))
	wantRead(t, "a and not b", op(api.ExAnd, a, not(b)))
	wantRead(t, "a or not b and then not c", op(api.ExOr, a, op(api.ExAndThen, not(b), not(c))))
	wantRead(t, "not a = b", op(api.ExEq, not(a), b))
	wantRead(t, "not (a = b)", not(op(api.ExEq, a, b)))
	wantRead(t, "not f(a)", not(call("f", a)))
	wantRead(t, "not true", not(truth(1)))
	wantUnread(t, "not", api.ErrToken, 3)
	wantUnread(t, "a not b", api.ErrToken, 2)
	wantUnread(t, "not and b", api.ErrToken, 4)
}

func TestElseAndThenBehindOrAndAnd(t *testing.T) {
	wantRead(t, "a or else b or c or else d", op(api.ExOrElse, op(api.ExOr, op(api.ExOrElse, a, b), c), d))
	wantRead(t, "a and then b and c and then d", op(api.ExAndThen, op(api.ExAnd, op(api.ExAndThen, a, b), c), d))
	wantRead(t, "a OR\n\nELSE b", op(api.ExOrElse, a, b))
	wantUnread(t, "a or then b", api.ErrToken, 5)
	wantUnread(t, "a and else b", api.ErrToken, 6)
	wantUnread(t, "a or else else b", api.ErrToken, 10)
	wantUnread(t, "a and then then b", api.ErrToken, 11)
	wantUnread(t, "a else b", api.ErrToken, 2)
	wantUnread(t, "a then b", api.ErrToken, 2)
	wantUnread(t, "a or {n} else b", api.ErrPlace, 5)
	wantUnread(t, "a and {n} then b", api.ErrPlace, 6)
	wantUnread(t, "a + else b", api.ErrToken, 4)
	wantUnread(t, "a * then b", api.ErrToken, 4)
	wantUnread(t, "a or or b", api.ErrToken, 5)
}

func TestConstants(t *testing.T) {
	wantRead(t, "true", truth(1))
	wantRead(t, "false", truth(0))
	wantRead(t, "True and FALSE", op(api.ExAnd, truth(1), truth(0)))
	wantRead(t, "0", number(0))
	wantRead(t, "007", number(7))
	wantRead(t, "9223372036854775807", number(math.MaxInt64))
	wantRead(t, "''''", char1('\''))
	for n := range int64(256) {
		wantRead(t, "#"+strconv.FormatInt(n, 10), char1(n))
		if n >= 32 && n <= 126 && n != '\'' {
			wantRead(t, "'"+string(rune(n))+"'", char1(n))
		}
	}
	wantUnread(t, "1 2", api.ErrToken, 2)
	wantUnread(t, "'a''b'", api.ErrToken, 3)
	wantUnread(t, "true false", api.ErrToken, 5)
	wantUnread(t, "1(a)", api.ErrToken, 1)
	wantUnread(t, "true[a]", api.ErrToken, 4)
	wantUnread(t, "'a'.b", api.ErrToken, 3)
	wantUnread(t, "(a).b", api.ErrToken, 3)
}

func TestCallsElementsFields(t *testing.T) {
	wantRead(t, "f()", call("f"))
	wantRead(t, "f ( )", call("f"))
	wantRead(t, "f(a)", call("f", a))
	wantRead(t, "f(a, b = c, (d))", call("f", a, op(api.ExEq, b, c), d))
	wantRead(t, "f(f(), f(f()))", call("f", call("f"), call("f", call("f"))))
	wantRead(t, "a[b]", index("a", b))
	wantRead(t, "a[a[f(b[1])] = 2]", index("a", op(api.ExEq, index("a", call("f", index("b", number(1)))), number(2))))
	wantRead(t, "a.b", field("a", "b"))
	wantRead(t, "a . b * c.d", op(api.ExMul, field("a", "b"), field("c", "d")))
	wantRead(t, "A", a)
	for s, at := range map[string]int{
		"f(": 2, "f(a": 3, "f(a,": 4, "f(a,)": 4, "f(,)": 2, "f(,a)": 2, "f(a b)": 4, "f(a]": 3, "f())": 3, "f()()": 3, "f(a,,b)": 4, "f(a;b)": 3,
		"a[": 2, "a[]": 2, "a[b": 3, "a[b)": 3, "a[b,c]": 3, "a[b][c]": 4, "a]": 1,
		"a.": 2, "a.1": 2, "a.end": 2, "a.(b)": 2, "a.b.c": 3, "a.b(c)": 3, "a.b[c]": 3, ".a": 0, "a..b": 2, "a.'b'": 2,
		"(": 1, "()": 1, "(a": 2, "(a]": 2, "((a)": 4, ")": 0, "(a))": 3, "(a, b)": 2, "(a)(b)": 3, "(a b)": 3,
		"a b": 2, "a 1": 2, "f (a) b": 6,
	} {
		wantUnread(t, s, api.ErrToken, at)
	}
	for s, at := range map[string]int{"f{n}()": 1, "f({n})": 2, "f(a{n})": 3, "f(a,{n}b)": 4, "a{n}[b]": 1, "a[{n}b]": 2, "a[b{n}]": 3, "a.{n}b": 2, "a{n}.b": 1, "({n}a)": 1, "(a{n})": 2, "{n}a": 0, "a{n}": 1, "-{n}a": 1, "not{n}a": 3} {
		wantUnread(t, s, api.ErrPlace, at)
	}
}

func TestOperandsOfCalls(t *testing.T) {
	operands := func(count int) string { return strings.TrimSuffix(strings.Repeat("1,", count), ",") }
	for _, count := range []int{0, 1, 2, api.MaxItems - 1, api.MaxItems} {
		e, d := Read("f(" + operands(count) + ")")
		if d != (api.Diag{}) || e.Op != api.ExCall || len(e.L) != count {
			t.Fatal(count, d)
		}
	}
	long := "f(" + operands(api.MaxItems+1) + ")"
	most := "f(" + operands(api.MaxItems) + ")"
	wantUnread(t, long, api.ErrLong, 0)
	wantUnread(t, "\n  "+long, api.ErrLong, 3)
	wantUnread(t, "f("+operands(30000)+")", api.ErrLong, 0)
	// At the whole's first token, wherever the call stands in it.
	for _, ahead := range []string{"(", "-", "not ", "a * ", "a = ", "-a or else ", "a[", "f(1, ", "((a) + "} {
		s := "\n " + ahead + long
		close1, _ := closers(wordsOf(lex(t, ahead)))
		wantUnread(t, s+strings.Join(close1, ""), api.ErrLong, 2)
		if _, d := Read("\n " + ahead + most + strings.Join(close1, "")); d != (api.Diag{}) {
			t.Fatal(ahead, d)
		}
	}
	for _, behind := range []string{" + a", " = b", "* f()"} {
		wantUnread(t, long+behind, api.ErrLong, 0)
	}
	// What may not stand there is told ahead of it: it is met within the whole.
	wantUnread(t, long+" +", api.ErrToken, len(long)+2)
	wantUnread(t, "("+long+"]", api.ErrToken, len(long)+1)
	wantUnread(t, "f("+operands(api.MaxItems+1)+",)", api.ErrToken, len(long))
	wantUnread(t, "f("+operands(api.MaxItems+1)+"{n})", api.ErrPlace, len(long)-1)
	// What stands behind the whole is not met.
	wantUnread(t, long+" a", api.ErrLong, 0)
	wantUnread(t, long+"{n}", api.ErrLong, 0)
	// Operands that are no call's are not counted: there are two at most.
	if e, d := Read(most + " + " + most); d != (api.Diag{}) || len(e.L) != 2 {
		t.Fatal(d)
	}
}

func wordsOf(l []api.Tok) (out []string) {
	for _, t := range l {
		out = append(out, t.Text)
	}
	return out
}

// onions are ways to set one around an expression, so that it is one deeper.
var onions = map[string]struct{ ahead, behind string }{
	"not":             {"not ", ""},
	"not in brackets": {"not (", ")"},
	"-":               {"-(", ")"},
	"call":            {"f(", ")"},
	"later operand":   {"f(1, ", ", 2)"},
	"element":         {"a[", "]"},
	"left of =":       {"(", ") = a"},
	"right of =":      {"a = (", ")"},
	"left of +":       {"(", ") + a"},
	"right of +":      {"a + (", ")"},
	"left of and":     {"(", ") and a"},
	"right of *":      {"a * (", ")"},
}

func TestDepth(t *testing.T) {
	for name, o := range onions {
		for _, core := range []string{"a", "1", "f()", "a.b", "(a)"} {
			peeled := func(depth int) string {
				return strings.Repeat(o.ahead, depth-1) + core + strings.Repeat(o.behind, depth-1)
			}
			for _, depth := range []int{1, 2, api.MaxDepth - 1, api.MaxDepth} {
				e, d := Read(peeled(depth))
				if d != (api.Diag{}) || depthOf(e) != depth {
					t.Fatal(name, core, depth, d)
				}
			}
			for _, depth := range []int{api.MaxDepth + 1, api.MaxDepth + 2, 1000} {
				wantUnread(t, peeled(depth), api.ErrDeep, 0)
				wantUnread(t, "\n "+peeled(depth), api.ErrDeep, 2)
				wantUnread(t, "("+peeled(depth)+")", api.ErrDeep, 0)
			}
		}
	}
	for _, sign := range []string{" + ", " or else ", " * ", " and then "} {
		row := func(count int) string { return strings.TrimSuffix(strings.Repeat("a"+sign, count), sign) }
		if e, d := Read(row(api.MaxDepth)); d != (api.Diag{}) || depthOf(e) != api.MaxDepth {
			t.Fatal(sign, d)
		}
		wantUnread(t, row(api.MaxDepth+1), api.ErrDeep, 0)
		wantUnread(t, "f(a, "+row(api.MaxDepth)+")", api.ErrDeep, 0)
		wantUnread(t, "a = "+row(api.MaxDepth), api.ErrDeep, 0)
	}
}

func depthOf(e api.Expr) int {
	deepest := 0
	for _, o := range e.L {
		deepest = max(deepest, depthOf(o))
	}
	return deepest + 1
}

func TestBracketsAreNoDepth(t *testing.T) {
	for _, count := range []int{1, api.MaxDepth, api.MaxDepth + 1, 1000, api.MaxText/2 - 1} {
		wantRead(t, strings.Repeat("(", count)+"a"+strings.Repeat(")", count), a)
	}
	deep := strings.Repeat("not (", api.MaxDepth-1) + "((a))" + strings.Repeat(")", api.MaxDepth-1)
	if e, d := Read("((" + deep + "))"); d != (api.Diag{}) || depthOf(e) != api.MaxDepth {
		t.Fatal(d)
	}
}

// As much nested as a text can hold: whatever it is, there is an end.
func TestDeepTexts(t *testing.T) {
	for _, piece := range []string{"(", "not ", "-(", "f(", "a[", "f(1,", "a+(", "not(", "a*", "a or else ", "a=("} {
		count := (api.MaxText - 1) / len(piece)
		s := strings.Repeat(piece, count)
		wantUnread(t, s, api.ErrToken, len(strings.TrimRight(s, " "))+strings.Count(s[len(s)-1:], " "))
		l := lex(t, s)
		wantFault(t, Parse, l[:len(l)-1], 0, api.ErrToken, l[len(l)-2].Pos)
	}
	s := strings.Repeat("not ", (api.MaxText-1)/4) + "a"
	wantUnread(t, s, api.ErrDeep, 0)
	s = strings.Repeat("a-", (api.MaxText-1)/2) + "a"
	wantUnread(t, s, api.ErrDeep, 0)
}

// More tokens than a text has: signs beside each other are a tree as deep as there are tokens.
func TestLongRowsOfTokens(t *testing.T) {
	const count = 1 << 20
	l := make([]api.Tok, 0, 2*count+1)
	for range count {
		l = append(l, api.Tok{Kind: api.TokName, Text: "a"}, api.Tok{Kind: api.TokSign, Text: "-"})
	}
	wantFault(t, Parse, l, 0, api.ErrToken, api.Pos{})
	place := api.Pos{At: 7, Line: 7, Col: 7}
	l = append(l, api.Tok{Kind: api.TokName, Text: "a"})
	l[0].Pos = place
	wantFault(t, Parse, l, 0, api.ErrDeep, place)
	wantFrom(t, Parse, l, 2*count, a, 2*count+1)
}

func TestWhichFaultIsTold(t *testing.T) {
	long := "f(" + strings.Repeat("1,", api.MaxItems) + "1)"
	deep := strings.Repeat("not ", api.MaxDepth) + "a"
	wantUnread(t, deep+" = "+long, api.ErrLong, 0)
	wantUnread(t, long+" = "+deep, api.ErrLong, 0)
	wantUnread(t, strings.Repeat("f(", api.MaxDepth)+long+strings.Repeat(")", api.MaxDepth), api.ErrLong, 0)
	wantUnread(t, "f("+deep+strings.Repeat(",1", api.MaxItems)+")", api.ErrLong, 0)
	wantUnread(t, deep+" +", api.ErrToken, len(deep)+2)
	wantUnread(t, deep+" + {n} 1", api.ErrPlace, len(deep)+3)
	wantUnread(t, deep+" b", api.ErrDeep, 0)
	wantUnread(t, deep+" {n}", api.ErrDeep, 0)
	wantUnread(t, "a b {n}", api.ErrToken, 2)
	wantUnread(t, "a {n} b", api.ErrPlace, 2)
	wantUnread(t, "(] {n}", api.ErrToken, 1)
	wantUnread(t, "({n}]", api.ErrPlace, 1)
	// Layer 5 is asked first, about all of the text.
	wantUnread(t, ") ?", api.ErrByte, 2)
	wantUnread(t, deep+" ?", api.ErrByte, len(deep)+1)
	wantUnread(t, "a {n} {", api.ErrNote, 6)
}

func TestUnreadByLayer5(t *testing.T) {
	for _, s := range []string{"?", "a ?", "a +\n ?", "{", "a {", "'", "a + '", "#", "#256", "9223372036854775808", "a + 9223372036854775808", strings.Repeat("a", api.MaxName+1), strings.Repeat(" ", api.MaxText+1), "1" + strings.Repeat(" ", api.MaxText), "{" + strings.Repeat("a", api.MaxNote+1) + "}", "a$b", "\x00", "caf\u00e9"} {
		_, want := lexpas.All(s)
		if want.Code == api.OK {
			t.Fatal(s)
		}
		if e, d := Read(s); d != want || !tree.SameExpr(e, api.Expr{}) {
			t.Fatalf("Read(%.40q) = %v, %v, want %v", s, e, d, want)
		}
	}
	if e, d := Read(strings.Repeat(" ", api.MaxText-1) + "a"); d != (api.Diag{}) || !tree.SameExpr(e, a) {
		t.Fatal(e, d)
	}
}

func TestTextsWithoutAnExpression(t *testing.T) {
	for s, at := range map[string]int{"": 0, " ": 1, "\n\n": 2, "begin": 0, "end": 0, " ;": 1, ":=": 0, "=": 0, ",": 0, "integer": 0, "then": 0, "else a": 0, "and a": 0, "or": 0, "div": 0} {
		wantUnread(t, s, api.ErrToken, at)
	}
	wantUnread(t, "{n}", api.ErrPlace, 0)
	wantUnread(t, "\n{n}{m}", api.ErrPlace, 1)
}

func TestParseFromAPlaceWithin(t *testing.T) {
	l := lex(t, "x := a + 1; {n}\nwhile b[i] do f(c, 2)")
	// 0 x, 1 :=, 2 a, 3 +, 4 1, 5 ;, 6 {n}, 7 while, 8 b, 9 [, 10 i, 11 ], 12 do, 13 f, 14 (, 15 c, 16 ,, 17 2, 18 ), 19 end
	wantFrom(t, Parse, l, 0, variable("x"), 1)
	wantFrom(t, Parse, l, 2, op(api.ExAdd, a, number(1)), 5)
	wantFrom(t, Parse, l, 4, number(1), 5)
	wantFrom(t, Parse, l, 8, index("b", variable("i")), 12)
	wantFrom(t, Parse, l, 10, variable("i"), 11)
	wantFrom(t, Parse, l, 13, call("f", c, number(2)), 19)
	wantFault(t, Parse, l, 14, api.ErrToken, l[16].Pos)
	wantFrom(t, Parse, l, 15, c, 16)
	for _, at := range []int{1, 3, 5, 7, 9, 11, 12, 16, 18, 19} {
		wantFault(t, Parse, l, at, api.ErrToken, l[at].Pos)
	}
	wantFault(t, Parse, l, 6, api.ErrPlace, l[6].Pos)
}

func TestPlacesWhereNoTokenIs(t *testing.T) {
	l := lex(t, "x :=\n a + 1")
	for _, read := range []reading{Parse, Named} {
		for _, at := range []int{math.MinInt, -len(l), -3, -1, len(l) - 1, len(l), len(l) + 1, math.MaxInt - 1, math.MaxInt} {
			wantFault(t, read, l, at, api.ErrToken, l[len(l)-1].Pos)
		}
		for _, none := range [][]api.Tok{nil, {}, l[:0], l[3:3]} {
			for _, at := range []int{math.MinInt, -1, 0, 1, math.MaxInt} {
				wantFault(t, read, none, at, api.ErrToken, api.Pos{})
			}
		}
	}
}

// The tokens need not end in a TokEnd; what is missing is one, at the last one's place.
func TestTokensWithoutAnEnd(t *testing.T) {
	for s, want := range map[string]api.Expr{"a": a, "1": number(1), "f()": call("f"), "a +\n b": op(api.ExAdd, a, b), "a[b]": index("a", b), "a.b": field("a", "b"), "(a)": a} {
		l := lex(t, s)
		wantFrom(t, Parse, l[:len(l)-1], 0, want, len(l)-1)
		wantFrom(t, Parse, l[:len(l)-1:len(l)-1], 0, want, len(l)-1)
		for cut := 1; cut < len(l)-1; cut++ {
			got, next, d := Parse(l[:cut], 0)
			if d.Code == api.OK && (next != cut || got.Op != api.ExVar) || d.Code != api.OK && (d != api.Diag{Code: api.ErrToken, Pos: l[cut-1].Pos} || next != 0) {
				t.Fatalf("%q cut at %d: %v, %d, %v", s, cut, got, next, d)
			}
		}
	}
	// A TokEnd may stand within: nothing is read beyond it.
	l := []api.Tok{{Kind: api.TokName, Text: "a"}, {Kind: api.TokEnd, Text: "+"}, {Kind: api.TokName, Text: "b"}}
	wantFrom(t, Parse, l, 0, a, 1)
	wantFrom(t, Parse, l, 2, b, 3)
}

// A token of each kind at each place of an expression at which it may not stand.
func TestKindsWhereTheyMayNotStand(t *testing.T) {
	place := api.Pos{At: 77, Line: 7, Col: 7}
	strangers := []api.Tok{{Kind: api.TokEnd}, {Kind: api.TokWord, Text: "begin"}, {Kind: api.TokSign, Text: ";"}, {Kind: api.TokNote, Text: "a"}, {Kind: -1, Text: "a"}, {Kind: 7, Text: "a"}, {Kind: math.MaxInt, Text: "("}, {Kind: api.TokWord}, {Kind: api.TokSign}}
	operands := []api.Tok{{Kind: api.TokName, Text: "n"}, {Kind: api.TokInt, N: 1}, {Kind: api.TokChar, N: 1}, {Kind: api.TokWord, Text: "true"}}
	code := func(x api.Tok) api.Errno {
		if x.Kind == api.TokNote {
			return api.ErrPlace
		}
		return api.ErrToken
	}
	for _, ahead := range []string{"", "-", "a +", "a = ", "a and", "a or else", "not", "(", "(a", "f(", "f(a", "f(a,", "a[", "a[b", "a.", "f(a, (b", "a * (-(b - ("} {
		some := strangers
		if strings.HasSuffix(ahead, "a") || strings.HasSuffix(ahead, "b") || ahead == "a." {
			some = append(slices.Clone(some), operands...)
		}
		if ahead == "a." {
			some = slices.DeleteFunc(some, func(x api.Tok) bool { return x.Kind == api.TokName })
		}
		for _, x := range some {
			x.Pos = place
			l := lex(t, ahead)
			l = append(l[:len(l)-1], x, api.Tok{Kind: api.TokName, Text: "z"}, api.Tok{Kind: api.TokSign, Text: ")"})
			wantFault(t, Parse, l, 0, code(x), place)
		}
	}
}

func TestSignsAndWordsAreToldByTheirText(t *testing.T) {
	for _, s := range []string{"not a", "true", "false", "a and then b or else c", "a div b mod c", "f(a, b[1]) = -c.d", "a <> b"} {
		l := lex(t, s)
		want, _, _ := Parse(l, 0)
		for i, x := range l {
			if x.Kind != api.TokWord && x.Kind != api.TokSign {
				continue
			}
			changed := slices.Clone(l)
			changed[i].Kind = api.TokWord + api.TokSign - x.Kind
			wantFrom(t, Parse, changed, 0, want, len(l)-1)
			changed[i].Kind = api.TokName
			if got, _, _ := Parse(changed, 0); tree.SameExpr(got, want) {
				t.Fatalf("%q: the name %s is a sign", s, x.Text)
			}
		}
	}
	// A name is one by its kind, whatever its text.
	for _, name := range []string{"not", "true", "(", "", "A b", "$"} {
		l := []api.Tok{{Kind: api.TokName, Text: name, N: 7}, {Kind: api.TokSign, Text: "."}, {Kind: api.TokName, Text: name, Same: true}}
		wantFrom(t, Parse, l, 0, field(name, name), 3)
		wantFrom(t, Parse, l, 2, variable(name), 3)
	}
	wantFault(t, Parse, []api.Tok{{Kind: api.TokWord, Text: "a"}}, 0, api.ErrToken, api.Pos{})
	wantFrom(t, Parse, []api.Tok{{Kind: api.TokInt, N: math.MinInt64, Text: "not"}}, 0, number(math.MinInt64), 1)
	wantFrom(t, Parse, []api.Tok{{Kind: api.TokChar, N: 1000, Text: "("}}, 0, char1(1000), 1)
	// Or else and and then are two words each.
	wantFrom(t, Parse, []api.Tok{{Kind: api.TokName, Text: "a"}, {Kind: api.TokWord, Text: "or else"}, {Kind: api.TokName, Text: "b"}}, 0, a, 1)
	wantFrom(t, Parse, []api.Tok{{Kind: api.TokName, Text: "a"}, {Kind: api.TokWord, Text: "and then"}, {Kind: api.TokName, Text: "b"}}, 0, a, 1)
}

// The longest one is read, and what stands behind it stays.
func TestWhatStandsBehind(t *testing.T) {
	for s, behind := range map[string]int{
		"a = b = c": 3, "a + b c": 3, "a b": 1, "a )": 1, "a ]": 1, "a ,": 1, "a ;": 1, "a :=": 1, "a : b": 1, "a then": 1, "a else": 1, "a do": 1, "a {n} + b": 1, "a + b {n}": 3, "a 1": 1, "a not": 1, "a true": 1, "1 ( )": 1, "a . b . c": 3, "a [ b ] [ c ]": 4, "f ( ) ( )": 3, "( a ) ( b )": 3, "a < b <= c": 3, "not a b": 2, "- a b": 2,
	} {
		l := lex(t, s)
		if e, next, d := Parse(l, 0); d != (api.Diag{}) || next != behind || e.Op == 0 {
			t.Fatalf("%q: %v, %d, %v", s, e, next, d)
		}
		if e, d := Read(s); d != faultAt(l[behind]) || e.Op != 0 {
			t.Fatalf("%q: %v, %v", s, e, d)
		}
	}
}

func TestNamed(t *testing.T) {
	for s, want := range map[string]struct {
		e      api.Expr
		behind int
	}{
		"a": {a, 1}, "a + b": {a, 1}, "a = b": {a, 1}, "a b": {a, 1}, "a {n}": {a, 1}, "a := b": {a, 1}, "a or else b": {a, 1}, "a ) (": {a, 1},
		"a.b": {field("a", "b"), 3}, "a.b.c": {field("a", "b"), 3}, "a.b := 1": {field("a", "b"), 3},
		"a[b]": {index("a", b), 4}, "a[b = c] := 1": {index("a", op(api.ExEq, b, c)), 6}, "a[-1][2]": {index("a", op(api.ExNeg, number(1))), 5},
		"f()": {call("f"), 3}, "f()()": {call("f"), 3}, "f(a, b * 1) ;": {call("f", a, op(api.ExMul, b, number(1))), 8}, "f(a)": {call("f", a), 4},
	} {
		l := lex(t, s)
		wantFrom(t, Named, l, 0, want.e, want.behind)
		shifted := append(lex(t, "x := (")[:3], l...)
		wantFrom(t, Named, shifted, 3, want.e, want.behind+3)
		wantFrom(t, Named, l[:want.behind], 0, want.e, want.behind)
	}
	for s, at := range map[string]int{"": 0, "1": 0, "'a'": 0, "true": 0, "not a": 0, "-a": 0, "(a)": 0, ")": 0, ":= a": 0, "begin": 0, "a.": 2, "a.1": 2, "a[": 2, "a[]": 2, "a[b": 3, "a[b)": 3, "f(": 2, "f(a,)": 4, "f(a": 3} {
		l := lex(t, s)
		wantFault(t, Named, l, 0, api.ErrToken, text.At(s, at))
	}
	for s, at := range map[string]int{"{n}": 0, "{n} a": 0, "a.{n}b": 2, "a[{n}b]": 2, "f({n})": 2, "f(a{n})": 3} {
		wantFault(t, Named, lex(t, s), 0, api.ErrPlace, text.At(s, at))
	}
}

func TestLimitsOfNamed(t *testing.T) {
	onion := func(ahead string, depth int, behind string) string {
		return strings.Repeat(ahead, depth-1) + "a" + strings.Repeat(behind, depth-1)
	}
	for _, peel := range [][2]string{{"f(", ")"}, {"a[", "]"}, {"f(1,", ")"}} {
		l := lex(t, "x := "+onion(peel[0], api.MaxDepth, peel[1])+" + 1")
		if e, _, d := Named(l, 2); d != (api.Diag{}) || depthOf(e) != api.MaxDepth {
			t.Fatal(d)
		}
		l = lex(t, "x :=\n "+onion(peel[0], api.MaxDepth+1, peel[1])+" + 1")
		wantFault(t, Named, l, 2, api.ErrDeep, api.Pos{At: 6, Line: 1, Col: 1})
	}
	most := strings.Repeat("1,", api.MaxItems-1) + "1"
	for _, s := range []string{"f(" + most + ")", "a[f(" + most + ")]", "f(f(" + most + "), 1)"} {
		if _, next, d := Named(lex(t, s), 0); d != (api.Diag{}) || next < api.MaxItems {
			t.Fatal(next, d)
		}
		more := strings.Replace(s, "1,", "1,1,", 1)
		wantFault(t, Named, lex(t, "\n"+more), 0, api.ErrLong, api.Pos{At: 1, Line: 1})
		wantFault(t, Named, lex(t, more[:len(more)-1]), 0, api.ErrToken, text.At(more, len(more)-1))
	}
	deep := strings.Repeat("not ", api.MaxDepth) + "a"
	wantFault(t, Named, lex(t, "f("+deep+","+most+")"), 0, api.ErrLong, api.Pos{})
	// What is behind the named one is not counted.
	wantFrom(t, Named, lex(t, "a + "+deep), 0, a, 1)
	wantFault(t, Parse, lex(t, "a + "+deep), 0, api.ErrDeep, api.Pos{})
}

// What is handed in stays, the room behind it is not read, and what is answered is memory of its own.
func TestWhatIsHandedInStays(t *testing.T) {
	l := lex(t, "f(a, b + 1)[2] {n}")
	before := slices.Clone(l)
	for _, read := range []reading{Parse, Named} {
		for at := -1; at <= len(l); at++ {
			for end := 0; end <= len(l); end++ {
				e1, n1, d1 := read(l[:end], at)
				e2, n2, d2 := read(slices.Clone(l[:end:end]), at)
				if !tree.SameExpr(e1, e2) || n1 != n2 || d1 != d2 {
					t.Fatal(at, end)
				}
			}
		}
		e, _, _ := read(l, 0)
		e.L[0].Name, e.L[1].L[0].N = "changed", 9
		e.L = append(e.L[:1], a, b, c)
		again, _, _ := read(l, 0)
		if want := call("f", a, op(api.ExAdd, b, number(1))); !tree.SameExpr(again, want) {
			t.Fatal(again)
		}
	}
	if !slices.Equal(l, before) {
		t.Fatal(l)
	}
	e := op(api.ExAdd, op(api.ExMul, a, b), call("f", a, op(api.ExNeg, b)))
	same := op(api.ExAdd, op(api.ExMul, a, b), call("f", a, op(api.ExNeg, b)))
	if _, f := Print(e); f != api.OK || !reflect.DeepEqual(e, same) {
		t.Fatal(e, f)
	}
}
