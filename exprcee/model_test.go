package exprcee

import (
	"math/rand"
	"strings"
	"testing"

	"pantograph/api"
	"pantograph/lexcee"
	"pantograph/text"
	"pantograph/tree"
)

// The model reads words that stand apart: it splits them at the last of the loosest signs that stands in no brackets, where the package reads from the left.

var modelLeaves = map[string]api.Expr{
	"a": variable("a"), "f": variable("f"), "z": variable("z"), "1": number(1), "'c'": char1('c'),
	"true": truth(1), "false": truth(0),
}

func isPlain(s string) bool { return modelLeaves[s].Op == api.ExVar }
func isName(s string) bool  { return isPlain(s) || s == "f$g" }

// endsOperand: may a sign between two operands stand behind it?
func endsOperand(s string) bool { return modelLeaves[s].Op != 0 || s == ")" || s == "]" }

// closers are what closes all brackets of l that are open at its end.
func closers(l []string) (out []string, ok bool) {
	other := map[string]string{"(": ")", "[": "]"}
	for _, s := range l {
		switch s {
		case "(", "[":
			out = append([]string{other[s]}, out...)
		case ")", "]":
			if len(out) == 0 || out[0] != s {
				return nil, false
			}
			out = out[1:]
		}
	}
	return out, true
}

// outside are the places of l that stand in no brackets.
func outside(l []string) []bool {
	out, depth := make([]bool, len(l)), 0
	for i, s := range l {
		if s == ")" || s == "]" {
			depth--
		}
		out[i] = depth == 0
		if s == "(" || s == "[" {
			depth++
		}
	}
	return out
}

func model(l []string) (api.Expr, bool) {
	if open, ok := closers(l); !ok || len(open) > 0 {
		return api.Expr{}, false
	}
	return modelExpr(l)
}

func modelExpr(l []string) (api.Expr, bool) {
	bare := outside(l)
	for _, level := range levels {
		for i := len(l) - 1; i > 0; i-- {
			if of := level[l[i]]; of != 0 && bare[i] && endsOperand(l[i-1]) {
				left, ok1 := modelExpr(l[:i])
				right, ok2 := modelExpr(l[i+1:])
				return op(of, left, right), ok1 && ok2
			}
		}
	}
	return modelFactor(l)
}

func modelFactor(l []string) (api.Expr, bool) {
	last := len(l) - 1
	switch {
	case len(l) == 0:
		return api.Expr{}, false
	case len(l) == 1:
		e, ok := modelLeaves[l[0]]
		return e, ok
	case l[0] == "-" || l[0] == "!":
		e, ok := modelFactor(l[1:])
		return op(map[string]int{"-": api.ExNeg, "!": api.ExNot}[l[0]], e), ok
	case l[0] == "(" && closedBy(l, 0) == last:
		return modelExpr(l[1:last])
	case isName(l[0]) && l[1] == "(" && closedBy(l, 1) == last:
		operands, ok := modelOperands(l[2:last])
		return call(l[0], operands...), ok
	case !isPlain(l[0]):
		return api.Expr{}, false
	case len(l) == 3 && l[1] == "." && isPlain(l[2]):
		return field(l[0], l[2]), true
	case l[1] == "[" && closedBy(l, 1) == last:
		e, ok := modelExpr(l[2:last])
		return index(l[0], e), ok
	}
	return api.Expr{}, false
}

func closedBy(l []string, at int) int {
	depth := 0
	for i := at; i < len(l); i++ {
		switch l[i] {
		case "(", "[":
			depth++
		case ")", "]":
			if depth--; depth == 0 {
				return i
			}
		}
	}
	return -1
}

func modelOperands(l []string) (out []api.Expr, ok bool) {
	if len(l) == 0 {
		return nil, true
	}
	bare, begin, ups := outside(l), 0, false
	for i := 0; i <= len(l); i++ {
		if i < len(l) && (l[i] != "," || !bare[i]) {
			continue
		}
		one := l[begin:i]
		e, ok := modelExpr(one)
		if len(one) == 2 && one[0] == "up" && isPlain(one[1]) {
			e, ok, ups = up(one[1]), true, true
		}
		if !ok || ups && e.Op != api.ExUp {
			return nil, false
		}
		out, begin = append(out, e), i+1
	}
	return out, true
}

// viable: may l be the beginning of an expression? If so, an operand, or those of a call, and closing brackets make one of it.
func viable(l []string) bool {
	close1, ok := closers(l)
	if !ok {
		return false
	}
	for _, more := range []string{"", "a", "up a", "( )"} {
		if _, ok := model(concat(l, strings.Fields(more), close1)); ok {
			return true
		}
	}
	return false
}

func concat(lists ...[]string) (out []string) {
	for _, l := range lists {
		out = append(out, l...)
	}
	return out
}

func faultAt(t api.Tok) api.Diag {
	if t.Kind == api.TokNote {
		return api.Diag{Code: api.ErrPlace, Pos: t.Pos}
	}
	return api.Diag{Code: api.ErrToken, Pos: t.Pos}
}

// modelFault is what is wrong of l, of which k words may begin an expression.
func modelFault(l []string, toks []api.Tok, k int) api.Diag {
	last := ""
	if k > 0 {
		last = l[k-1]
	}
	switch {
	case last == "f$g":
		return api.Diag{Code: api.ErrName, Pos: toks[k-1].Pos}
	case (last == "." || last == "up") && k < len(l) && l[k] == "f$g":
		return api.Diag{Code: api.ErrName, Pos: toks[k].Pos}
	}
	return faultAt(toks[k])
}

// wantModel holds Parse and Read of l, in a text whose words stand apart by between, against the model.
func wantModel(t *testing.T, l []string, between string) {
	t.Helper()
	k := 0
	for k < len(l) && viable(l[:k+1]) {
		k++
	}
	s := strings.Join(l, between)
	toks, d := lexcee.All(s)
	if d.Code != api.OK || len(toks) != len(l)+1 {
		t.Fatalf("%q: %v", s, d)
	}
	e, ok := model(l[:k])
	if !ok {
		fault := modelFault(l, toks, k)
		wantFault(t, Parse, toks, 0, fault.Code, fault.Pos)
		wantUnread(t, s, fault.Code, fault.Pos.At)
		return
	}
	wantFrom(t, Parse, toks, 0, e, k)
	if k < len(l) {
		wantUnread(t, s, faultAt(toks[k]).Code, toks[k].Pos.At)
	} else {
		wantRead(t, s, e)
	}
}

// allWords are one of each kind at least; those that may not stand in an expression too.
var allWords = strings.Fields("a 1 'c' true f$g up ( ) [ ] . , - ! * < == & | && || /*n*/ ; = main")

// Every row of words up to a length, as far as its beginning may begin an expression.
func TestModelOfShortOnes(t *testing.T) {
	const most = 5
	var grow func(l []string)
	grow = func(l []string) {
		for _, w := range allWords {
			longer := append(l[:len(l):len(l)], w)
			wantModel(t, longer, " ")
			if len(longer) < most && viable(longer) {
				grow(longer)
			}
		}
	}
	grow(nil)
}

// Rows of any words, whatever stands behind the first that may not stand there.
func TestModelOfAnyWords(t *testing.T) {
	rnd := rand.New(rand.NewSource(9))
	for range 40000 {
		l := make([]string, rnd.Intn(9))
		for i := range l {
			l[i] = allWords[rnd.Intn(len(allWords))]
		}
		wantModel(t, l, " ")
	}
}

// Long ones that are right, and those with one word changed, dropped, doubled or cut off.
func TestModelOfLongOnes(t *testing.T) {
	rnd := rand.New(rand.NewSource(99))
	for range 3000 {
		l := randomWords(rnd, 4)
		for len(l) > 40 { // the model is slow
			l = randomWords(rnd, 4)
		}
		wantModel(t, l, " ")
		at := rnd.Intn(len(l))
		changed := concat(l)
		changed[at] = allWords[rnd.Intn(len(allWords))]
		wantModel(t, changed, "\n")
		wantModel(t, concat(l[:at], l[at+1:]), " ")
		wantModel(t, concat(l[:at], l[at:at+1], l[at:]), "\n ")
		wantModel(t, l[:at], " ")
	}
}

func pick(rnd *rand.Rand, some string) []string {
	all := strings.Split(some, ";")
	return strings.Fields(all[rnd.Intn(len(all))])
}

// randomWords are an expression by the chapter's grammar, signs of all levels as they come.
func randomWords(rnd *rand.Rand, depth int) []string {
	l := randomFactor(rnd, depth)
	for rnd.Intn(2) == 0 {
		l = concat(l, pick(rnd, "||;&&;|;&;==;!=;<;<=;>;>=;+;-;*;/;%"), randomFactor(rnd, depth))
	}
	return l
}

func randomFactor(rnd *rand.Rand, depth int) []string {
	kind := rnd.Intn(10)
	if depth == 0 {
		kind = 0
	}
	switch kind {
	case 1, 2:
		return concat(pick(rnd, "-;!"), randomFactor(rnd, depth-1))
	case 3, 4:
		return concat([]string{"("}, randomWords(rnd, depth-1), []string{")"})
	case 5:
		return concat([]string{"a", "["}, randomWords(rnd, depth-1), []string{"]"})
	case 6:
		return strings.Fields("a . f")
	case 7:
		return concat(pick(rnd, "f;f$g"), []string{"("}, randomOperands(rnd, depth-1), []string{")"})
	}
	return pick(rnd, "a;f;1;'c';true;false")
}

func randomOperands(rnd *rand.Rand, depth int) (l []string) {
	for range rnd.Intn(3) {
		l = concat(l, randomWords(rnd, depth), []string{","})
	}
	for range rnd.Intn(3) {
		l = concat(l, []string{"up"}, pick(rnd, "a;f"), []string{","})
	}
	return l[:max(len(l)-1, 0)]
}

// The model's own examples: were it wrong, it would prove nothing.
func TestModelItself(t *testing.T) {
	for s, want := range map[string]string{
		"- a * a + f": "(((-a)*a)+f)", "a - a - f": "((a-a)-f)", "a || f && a": "(a||(f&&a))", "a - - a": "(a-(-a))",
		"! a == f": "((!a)==f)", "( a < f ) < ( a )": "((a<f)<a)", "f ( ) * f$g ( a , up f )": "(f()*f$g(a,up f))", "a [ - 1 ]": "a[(-1)]", "a . f": "a.f", "a | a & a == a": "(a|(a&(a==a)))",
	} {
		e, ok := model(strings.Fields(s))
		if got := plain(e); !ok || got != want {
			t.Fatalf("%s: %s, %v, want %s", s, got, ok, want)
		}
	}
	for _, s := range []string{"", "a +", "a = a", "* a", "a + * a", "( a", "a )", "f ( a , )", "f ( , )", "a [ ]", "a . 1", "1 . a", "1 ( )", "( )", "a a", "true ( )", "f$g", "a . f$g", "f$g [ a ]", "up a", "f ( up a , a )", "f ( up f$g )", "f ( up 1 )", "f ( ( up a ) )", "a ! a"} {
		if e, ok := model(strings.Fields(s)); ok {
			t.Fatalf("%s: %s", s, plain(e))
		}
	}
}

// plain is an expression with brackets around all that has a sign.
func plain(e api.Expr) string {
	var l []string
	for _, o := range e.L {
		l = append(l, plain(o))
	}
	switch e.Op {
	case api.ExInt:
		return text.Digits(e.N)
	case api.ExBool:
		return [...]string{"false", "true"}[e.N]
	case api.ExChar:
		return "'" + string(rune(e.N)) + "'"
	case api.ExVar:
		return e.Name
	case api.ExUp:
		return "up " + e.Name
	case api.ExIndex:
		return e.Name + "[" + l[0] + "]"
	case api.ExField:
		return e.Name + "." + e.Field
	case api.ExCall:
		return e.Name + "(" + strings.Join(l, ",") + ")"
	case api.ExNeg:
		return "(-" + l[0] + ")"
	case api.ExNot:
		return "(!" + l[0] + ")"
	}
	return "(" + l[0] + signText(e.Op) + l[1] + ")"
}

func signText(op int) string {
	for _, level := range levels {
		for sign, of := range level {
			if of == op {
				return sign
			}
		}
	}
	return "?"
}

// All the text's brackets are there: read, it is the expression, however they are set.
func TestReadOfPlain(t *testing.T) {
	rnd := rand.New(rand.NewSource(999))
	for range 4000 {
		e := randomExpr(rnd, 1+rnd.Intn(5))
		if got, d := Read(plain(e)); d != (api.Diag{}) || !tree.SameExpr(got, e) {
			t.Fatalf("Read(%q) = %v, %v", plain(e), got, d)
		}
	}
}
