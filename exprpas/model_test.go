package exprpas

import (
	"math/rand"
	"strings"
	"testing"

	"pantograph/api"
	"pantograph/lexpas"
	"pantograph/text"
	"pantograph/tree"
)

// The model reads words that stand apart, from the loosest sign inwards, where the package reads from the left; it knows no levels but by the order in which it splits.

var (
	modelCompare  = map[string]int{"=": api.ExEq, "<>": api.ExNe, "<": api.ExLt, "<=": api.ExLe, ">": api.ExGt, ">=": api.ExGe}
	modelAdd      = map[string]int{"+": api.ExAdd, "-": api.ExSub, "or": api.ExOr, "or else": api.ExOrElse}
	modelMultiply = map[string]int{"*": api.ExMul, "div": api.ExDiv, "mod": api.ExMod, "and": api.ExAnd, "and then": api.ExAndThen}
	modelLeaves   = map[string]api.Expr{
		"a": variable("a"), "f": variable("f"), "z": variable("z"), "1": number(1), "'c'": char1('c'),
		"true": {Op: api.ExBool, N: 1}, "false": {Op: api.ExBool},
	}
)

func isModelName(s string) bool { return modelLeaves[s].Op == api.ExVar }

// merged takes or else and and then as one sign each.
func merged(l []string) []string {
	var out []string
	for i := 0; i < len(l); i++ {
		if pair := strings.Join(l[i:min(i+2, len(l))], " "); pair == "or else" || pair == "and then" {
			out = append(out, pair)
			i++
		} else {
			out = append(out, l[i])
		}
	}
	return out
}

// closers are what closes all brackets of l that are open at its end.
func closers(l []string) (out []string, ok bool) {
	for _, s := range l {
		switch s {
		case "(":
			out = append([]string{")"}, out...)
		case "[":
			out = append([]string{"]"}, out...)
		case ")", "]":
			if len(out) == 0 || out[0] != s {
				return nil, false
			}
			out = out[1:]
		}
	}
	return out, true
}

func model(l []string) (api.Expr, bool) {
	if open, ok := closers(l); !ok || len(open) > 0 {
		return api.Expr{}, false
	}
	return modelExpr(merged(l))
}

// bare are the places of l that stand in no brackets.
func bare(l []string) []bool {
	out, depth := make([]bool, len(l)), 0
	for i, s := range l {
		if s == ")" || s == "]" {
			depth--
		}
		out[i] = depth == 0
		if s == "(" || s == "[" {
			depth++
		}
	}
	return out
}

func both(op int, left, right func() (api.Expr, bool)) (api.Expr, bool) {
	a, ok := left()
	if !ok {
		return api.Expr{}, false
	}
	b, ok := right()
	return api.Expr{Op: op, L: []api.Expr{a, b}}, ok
}

// splitLast splits l at the last of signs that stands in no brackets and behind something.
func splitLast(l []string, signs map[string]int, left, right, else1 func([]string) (api.Expr, bool)) (api.Expr, bool) {
	outside := bare(l)
	for i := len(l) - 1; i > 0; i-- {
		if op := signs[l[i]]; op != 0 && outside[i] {
			return both(op, func() (api.Expr, bool) { return left(l[:i]) }, func() (api.Expr, bool) { return right(l[i+1:]) })
		}
	}
	return else1(l)
}

func modelExpr(l []string) (api.Expr, bool) {
	return splitLast(l, modelCompare, modelSimple, modelSimple, modelSimple)
}

func modelSimple(l []string) (api.Expr, bool) {
	return splitLast(l, modelAdd, modelSimple, modelTerm, func(l []string) (api.Expr, bool) {
		if len(l) == 0 || l[0] != "-" {
			return modelTerm(l)
		}
		e, ok := modelTerm(l[1:])
		return api.Expr{Op: api.ExNeg, L: []api.Expr{e}}, ok
	})
}

func modelTerm(l []string) (api.Expr, bool) {
	return splitLast(l, modelMultiply, modelTerm, modelFactor, modelFactor)
}

func modelFactor(l []string) (api.Expr, bool) {
	last := len(l) - 1
	switch {
	case len(l) == 0:
		return api.Expr{}, false
	case len(l) == 1:
		e, ok := modelLeaves[l[0]]
		return e, ok
	case l[0] == "not":
		e, ok := modelFactor(l[1:])
		return api.Expr{Op: api.ExNot, L: []api.Expr{e}}, ok
	case l[0] == "(" && closedBy(l, 0) == last:
		return modelExpr(l[1:last])
	case !isModelName(l[0]):
		return api.Expr{}, false
	case len(l) == 3 && l[1] == "." && isModelName(l[2]):
		return api.Expr{Op: api.ExField, Name: l[0], Field: l[2]}, true
	case l[1] == "[" && closedBy(l, 1) == last:
		e, ok := modelExpr(l[2:last])
		return api.Expr{Op: api.ExIndex, Name: l[0], L: []api.Expr{e}}, ok
	case l[1] == "(" && closedBy(l, 1) == last:
		operands, ok := modelOperands(l[2:last])
		return api.Expr{Op: api.ExCall, Name: l[0], L: operands}, ok
	}
	return api.Expr{}, false
}

func closedBy(l []string, at int) int {
	depth := 0
	for i := at; i < len(l); i++ {
		switch l[i] {
		case "(", "[":
			depth++
		case ")", "]":
			if depth--; depth == 0 {
				return i
			}
		}
	}
	return -1
}

func modelOperands(l []string) (out []api.Expr, ok bool) {
	if len(l) == 0 {
		return nil, true
	}
	outside, begin := bare(l), 0
	for i := 0; i <= len(l); i++ {
		if i < len(l) && (l[i] != "," || !outside[i]) {
			continue
		}
		e, ok := modelExpr(l[begin:i])
		if !ok {
			return nil, false
		}
		out, begin = append(out, e), i+1
	}
	return out, true
}

// viable: may l be the beginning of an expression? If so, an operand and closing brackets make one of it.
func viable(l []string) bool {
	close1, ok := closers(l)
	if !ok {
		return false
	}
	for _, operand := range [][]string{nil, {"a"}} {
		if _, ok := model(concat(l, operand, close1)); ok {
			return true
		}
	}
	return false
}

func concat(lists ...[]string) (out []string) {
	for _, l := range lists {
		out = append(out, l...)
	}
	return out
}

// wantModel holds Parse and Read of l, in a text whose words stand apart by between, against the model.
func wantModel(t *testing.T, l []string, between string) {
	t.Helper()
	k := 0
	for k < len(l) && viable(l[:k+1]) {
		k++
	}
	s := strings.Join(l, between)
	toks, d := lexpas.All(s)
	if d.Code != api.OK || len(toks) != len(l)+1 {
		t.Fatalf("%q: %v", s, d)
	}
	got, next, d := Parse(toks, 0)
	e, ok := model(l[:k])
	if ok {
		if next != k || d != (api.Diag{}) || !tree.SameExpr(got, e) {
			t.Fatalf("Parse(%q) = %v, %d, %v, want %v, %d", s, got, next, d, e, k)
		}
	} else if next != 0 || d != faultAt(toks[k]) || got.Op != 0 {
		t.Fatalf("Parse(%q) = %v, %d, %v, want %v", s, got, next, d, faultAt(toks[k]))
	}
	want := api.Diag{}
	if !ok || k < len(l) {
		e, want = api.Expr{}, faultAt(toks[k])
	}
	if got, d := Read(s); d != want || !tree.SameExpr(got, e) {
		t.Fatalf("Read(%q) = %v, %v, want %v, %v", s, got, d, e, want)
	}
}

func faultAt(t api.Tok) api.Diag {
	if t.Kind == api.TokNote {
		return api.Diag{Code: api.ErrPlace, Pos: t.Pos}
	}
	return api.Diag{Code: api.ErrToken, Pos: t.Pos}
}

// allWords are one of each kind at least; those that may not stand in an expression too.
var allWords = strings.Fields("a 1 'c' true ( ) [ ] . , - + * = not or else and then {n} ; := begin")

// Every row of words up to a length, as far as its beginning may begin an expression.
func TestModelOfShortOnes(t *testing.T) {
	const most = 5
	var grow func(l []string)
	grow = func(l []string) {
		for _, w := range allWords {
			longer := append(l[:len(l):len(l)], w)
			wantModel(t, longer, " ")
			if len(longer) < most && viable(longer) {
				grow(longer)
			}
		}
	}
	grow(nil)
}

// Rows of any words, whatever stands behind the first that may not stand there.
func TestModelOfAnyWords(t *testing.T) {
	rnd := rand.New(rand.NewSource(8))
	for range 60000 {
		l := make([]string, rnd.Intn(9))
		for i := range l {
			l[i] = allWords[rnd.Intn(len(allWords))]
		}
		wantModel(t, l, " ")
	}
}

// Long ones that are right, and those with one word changed, dropped, doubled or cut off.
func TestModelOfLongOnes(t *testing.T) {
	rnd := rand.New(rand.NewSource(88))
	for range 4000 {
		l := randomWords(rnd, 4)
		for len(l) > 40 { // the model is slow
			l = randomWords(rnd, 4)
		}
		wantModel(t, l, " ")
		at := rnd.Intn(len(l))
		changed := concat(l)
		changed[at] = allWords[rnd.Intn(len(allWords))]
		wantModel(t, changed, "\n")
		wantModel(t, concat(l[:at], l[at+1:]), " ")
		wantModel(t, concat(l[:at], l[at:at+1], l[at:]), "\n ")
		wantModel(t, l[:at], " ")
	}
}

func pick(rnd *rand.Rand, some string) []string {
	all := strings.Split(some, "|")
	return strings.Fields(all[rnd.Intn(len(all))])
}

// randomWords are an expression by the chapter's grammar, written down as it stands there.
func randomWords(rnd *rand.Rand, depth int) []string {
	l := randomSimple(rnd, depth)
	if rnd.Intn(3) == 0 {
		l = concat(l, pick(rnd, "=|<>|<|<=|>|>="), randomSimple(rnd, depth))
	}
	return l
}

func randomSimple(rnd *rand.Rand, depth int) (l []string) {
	if rnd.Intn(3) == 0 {
		l = []string{"-"}
	}
	l = concat(l, randomTerm(rnd, depth))
	for rnd.Intn(3) == 0 {
		l = concat(l, pick(rnd, "+|-|or|or else"), randomTerm(rnd, depth))
	}
	return l
}

func randomTerm(rnd *rand.Rand, depth int) []string {
	l := randomFactor(rnd, depth)
	for rnd.Intn(3) == 0 {
		l = concat(l, pick(rnd, "*|div|mod|and|and then"), randomFactor(rnd, depth))
	}
	return l
}

func randomFactor(rnd *rand.Rand, depth int) []string {
	kind := rnd.Intn(9)
	if depth == 0 {
		kind = 0
	}
	switch kind {
	case 1:
		return concat([]string{"not"}, randomFactor(rnd, depth-1))
	case 2, 3:
		return concat([]string{"("}, randomWords(rnd, depth-1), []string{")"})
	case 4:
		return concat([]string{"a", "["}, randomWords(rnd, depth-1), []string{"]"})
	case 5:
		return strings.Fields("a . f")
	case 6:
		l := []string{"f", "("}
		for i := range rnd.Intn(4) {
			if i > 0 {
				l = append(l, ",")
			}
			l = concat(l, randomWords(rnd, depth-1))
		}
		return append(l, ")")
	}
	return pick(rnd, "a|f|1|'c'|true|false")
}

// The model's own examples: were it wrong, it would prove nothing.
func TestModelItself(t *testing.T) {
	for s, want := range map[string]string{
		"- a * a + f": "((-(a*a))+f)", "a - a - f": "((a-a)-f)", "a or else f and then a": "(a or else (f and then a))",
		"not a = f": "((not a)=f)", "( a = f ) = ( a )": "((a=f)=a)", "f ( ) * f ( a , 1 )": "(f()*f(a,1))", "a [ - 1 ]": "a[(-1)]", "a . f": "a.f",
	} {
		e, ok := model(strings.Fields(s))
		if got := plain(e); !ok || got != want {
			t.Fatalf("%s: %s, %v, want %s", s, got, ok, want)
		}
	}
	for _, s := range []string{"", "a +", "a = a = a", "- - a", "a + - a", "not - a", "( a", "a )", "f ( a , )", "f ( , )", "a [ ]", "a . 1", "1 . a", "1 ( )", "( )", "a a", "true ( )", "a else a", "a or then a"} {
		if e, ok := model(strings.Fields(s)); ok {
			t.Fatalf("%s: %s", s, plain(e))
		}
	}
}

// plain is an expression with brackets around all that has a sign.
func plain(e api.Expr) string {
	var l []string
	for _, o := range e.L {
		l = append(l, plain(o))
	}
	switch {
	case e.Op == api.ExInt:
		return text.Digits(e.N)
	case e.Op == api.ExBool:
		return [...]string{"false", "true"}[e.N]
	case e.Op == api.ExChar:
		return "#" + text.Digits(e.N)
	case e.Op == api.ExVar:
		return e.Name
	case e.Op == api.ExIndex:
		return e.Name + "[" + l[0] + "]"
	case e.Op == api.ExField:
		return e.Name + "." + e.Field
	case e.Op == api.ExCall:
		return e.Name + "(" + strings.Join(l, ",") + ")"
	case e.Op == api.ExNeg:
		return "(-" + l[0] + ")"
	case e.Op == api.ExNot:
		return "(not " + l[0] + ")"
	}
	sign := signText(e.Op)
	if strings.Contains(sign, " ") || sign[0] >= 'a' {
		return "(" + l[0] + " " + sign + " " + l[1] + ")"
	}
	return "(" + l[0] + sign + l[1] + ")"
}

// signText is the sign of an operation with two operands, from the model's maps.
func signText(op int) string {
	for _, signs := range []map[string]int{modelCompare, modelAdd, modelMultiply} {
		for sign, of := range signs {
			if of == op {
				return sign
			}
		}
	}
	return "?"
}
