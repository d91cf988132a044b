package exprcee

import (
	"math"
	"math/rand"
	"strconv"
	"strings"
	"testing"

	"pantograph/api"
	"pantograph/tree"
	"pantograph/words"
)

// wantPrint is P9.2 and P9.3 of one expression.
func wantPrint(t *testing.T, e api.Expr, want string) {
	t.Helper()
	got, f := Print(e)
	if f != api.OK || got != want {
		t.Fatalf("Print(%v) = %q, %v, want %q", e, got, f, want)
	}
	wantRound(t, e, got)
}

func wantRound(t *testing.T, e api.Expr, s string) {
	t.Helper()
	if again, d := Read(s); d != (api.Diag{}) || !tree.SameExpr(again, e) {
		t.Fatalf("Read(%q) = %v, %v, want %v", s, again, d, e)
	}
	for _, fewer := range withoutPairs(t, s) {
		if other, d := Read(fewer); d.Code == api.OK && tree.SameExpr(other, e) {
			t.Fatalf("%q is %q: brackets too many", s, fewer)
		}
	}
}

// withoutPairs is s without each one pair of ( ) that is no call's.
func withoutPairs(t *testing.T, s string) (out []string) {
	l := lex(t, s)
	ws := wordsOf(l)
	for i := range l {
		if ws[i] != "(" || i > 0 && l[i-1].Kind == api.TokName {
			continue
		}
		from, to := l[i].Pos.At, l[closedBy(ws, i)].Pos.At
		out = append(out, s[:from]+" "+s[from+1:to]+" "+s[to+1:])
	}
	return out
}

func wantNoText(t *testing.T, e api.Expr) {
	t.Helper()
	if s, f := Print(e); s != "" || f != api.ErrArg {
		t.Fatalf("Print(%v) = %q, %v", e, s, f)
	}
}

func TestPrintOfEachOp(t *testing.T) {
	wantPrint(t, number(0), "0")
	wantPrint(t, number(math.MaxInt64), "9223372036854775807")
	wantPrint(t, truth(0), "false")
	wantPrint(t, truth(1), "true")
	wantPrint(t, a, "a")
	wantPrint(t, variable("integer"), "integer")
	wantPrint(t, variable(strings.Repeat("z", api.MaxName)), strings.Repeat("z", api.MaxName))
	wantPrint(t, index("a", number(1)), "a[1]")
	wantPrint(t, field("a", "b"), "a.b")
	wantPrint(t, call("f"), "f()")
	wantPrint(t, call("f", a), "f(a)")
	wantPrint(t, call("f", a, b, number(3)), "f(a, b, 3)")
	wantPrint(t, call("f$g"), "f$g()")
	wantPrint(t, call("f$g$h", a, up("b"), up("c")), "f$g$h(a, up b, up c)")
	wantPrint(t, call("f", up("a")), "f(up a)")
	wantPrint(t, minus(a), "-a")
	wantPrint(t, not(a), "!a")
	wantPrint(t, minus(minus(a)), "--a")
	wantPrint(t, not(not(a)), "!!a")
	wantPrint(t, minus(not(minus(a))), "-!-a")
	wantPrint(t, minus(number(1)), "-1")
	wantPrint(t, op(api.ExSub, a, minus(minus(b))), "a - --b")
	for _, level := range levels {
		for sign, of := range level {
			wantPrint(t, op(of, a, b), "a "+sign+" b")
		}
	}
}

func TestPrintOfChars(t *testing.T) {
	for n := range int64(256) {
		want := `'\x` + strconv.FormatInt(n+256, 16)[1:] + `'`
		if n >= 0x20 && n <= 0x7e {
			want = "'" + string([]byte{byte(n)}) + "'"
		}
		switch n {
		case 0x27:
			want = `'\''`
		case 0x5c:
			want = `'\\'`
		}
		wantPrint(t, char1(n), want)
		wantPrint(t, op(api.ExAdd, char1(n), char1(n)), want+" + "+want)
		wantPrint(t, call("f", char1(n), index("a", char1(n))), "f("+want+", a["+want+"])")
	}
	wantPrint(t, char1(0), `'\x00'`)
	wantPrint(t, char1(10), `'\x0a'`)
	wantPrint(t, char1(127), `'\x7f'`)
	wantPrint(t, char1(255), `'\xff'`)
}

// ofEach is an expression of each Op with operands that have no sign, at the level that the chapter gives it.
func ofEach() map[int][]api.Expr {
	all := map[int][]api.Expr{
		tightest: {number(1), truth(1), char1('a'), a, index("a", b), field("a", "b"), call("f"), call("f$g", a, up("b")), not(a), minus(a)},
	}
	for i, level := range levels {
		for _, of := range level {
			all[i+1] = append(all[i+1], op(of, a, b))
		}
	}
	return all
}

// The levels that a place asks for are those of the chapter.
func TestBracketsOfEachPair(t *testing.T) {
	for own, operands := range ofEach() {
		for _, e := range operands {
			inner, _ := Print(e)
			at := func(asked int) string {
				if own < asked {
					return "(" + inner + ")"
				}
				return inner
			}
			for i, level := range levels {
				for sign, of := range level {
					wantPrint(t, op(of, e, c), at(i+1)+" "+sign+" c")
					wantPrint(t, op(of, c, e), "c "+sign+" "+at(i+2))
					wantPrint(t, op(of, e, e), at(i+1)+" "+sign+" "+at(i+2))
				}
			}
			wantPrint(t, minus(e), "-"+at(tightest))
			wantPrint(t, not(e), "!"+at(tightest))
			wantPrint(t, index("a", e), "a["+inner+"]")
			wantPrint(t, call("f", e), "f("+inner+")")
			wantPrint(t, call("f$g", e, e, up("c")), "f$g("+inner+", "+inner+", up c)")
		}
	}
}

func TestPrintOfDeepAndLongOnes(t *testing.T) {
	for name, wrap := range map[string]func(api.Expr) api.Expr{
		"!": not, "-": minus,
		"call": func(e api.Expr) api.Expr { return call("f$g", a, e, up("b")) }, "element": func(e api.Expr) api.Expr { return index("a", e) },
		"left": func(e api.Expr) api.Expr { return op(api.ExSub, e, b) }, "right": func(e api.Expr) api.Expr { return op(api.ExOrElse, b, e) },
	} {
		for _, e := range []api.Expr{a, call("f", up("a"))} {
			for depth := 1; depth <= api.MaxDepth+2; depth++ {
				if depth > api.MaxDepth {
					wantNoText(t, e)
				} else if s, f := Print(e); f != api.OK {
					t.Fatal(name, depth, f)
				} else {
					wantRound(t, e, s)
				}
				e = wrap(e)
			}
		}
	}
	for _, one := range []api.Expr{number(7), up("a")} {
		var operands []api.Expr
		for range api.MaxItems {
			operands = append(operands, one)
		}
		wantPrint(t, call("f", operands...), "f("+strings.TrimSuffix(strings.Repeat(plain(one)+", ", api.MaxItems), ", ")+")")
		wantNoText(t, call("f", append(operands, one)...))
	}
}

// A text longer than a text that can be read is printed nevertheless.
func TestPrintOfMoreThanATextHolds(t *testing.T) {
	long := strings.Repeat("z", api.MaxName)
	operands := []api.Expr{}
	for range api.MaxItems {
		operands = append(operands, variable(long))
	}
	rows := []api.Expr{}
	for range 8 {
		rows = append(rows, call("f", operands...))
	}
	one := "f(" + strings.TrimSuffix(strings.Repeat(long+", ", api.MaxItems), ", ") + ")"
	want := "g(" + strings.TrimSuffix(strings.Repeat(one+", ", 8), ", ") + ")"
	if s, f := Print(call("g", rows...)); f != api.OK || s != want || len(s) <= api.MaxText {
		t.Fatal(len(s), f)
	}
}

func TestPrintOfWhatIsNotRight(t *testing.T) {
	wrong := []api.Expr{
		{}, {Op: -1}, {Op: math.MinInt}, {Op: math.MaxInt}, {Op: api.ExUp + 1}, up("a"), up(""), op(api.ExUp, a),
		number(-1), number(math.MinInt64), truth(-1), truth(2), truth(math.MaxInt64), char1(-1), char1(256), char1(math.MinInt64),
		{Op: api.ExInt, Name: "a"}, {Op: api.ExInt, L: []api.Expr{a}}, {Op: api.ExVar, Name: "a", N: 1}, {Op: api.ExVar, Name: "a", Field: "b"},
		variable(""), variable("A"), variable("a b"), variable("1"), variable("a$b"), variable(strings.Repeat("z", api.MaxName+1)),
		{Op: api.ExIndex, Name: "a"}, {Op: api.ExIndex, L: []api.Expr{a}}, {Op: api.ExIndex, Name: "a", L: []api.Expr{a, b}}, index("a$b", a),
		field("a", ""), field("", "a"), field("a", "int"), field("int", "a"), field("a", "B"), field("a$b", "c"), field("a", "b$c"),
		call(""), call("f$"), call("$f"), call("f$$g"), call("f$int"), call("f", api.Expr{}), {Op: api.ExCall, Name: "f", Field: "g"}, {Op: api.ExCall, Name: "f", N: 1},
		call("f", up("a"), b), call("f", up("a"), b, up("c")), call("f", up("int")), call("f", up("a$b")), call("f", up("")), call("f", op(api.ExUp, a)), call("f", api.Expr{Op: api.ExUp, Name: "a", N: 1}), call("f", api.Expr{Op: api.ExUp, Name: "a", L: []api.Expr{a}}),
		op(api.ExNeg), op(api.ExNeg, a, b), op(api.ExNot), op(api.ExNot, a, b), index("a", up("b")), not(up("a")), minus(up("a")),
	}
	for o := api.ExMul; o <= api.ExGe; o++ {
		wrong = append(wrong, op(o), op(o, a), op(o, a, b, c), op(o, a, number(-1)), op(o, variable("int"), a), op(o, up("a"), b), op(o, a, up("b")), api.Expr{Op: o, N: 1, L: []api.Expr{a, b}}, api.Expr{Op: o, Name: "a", L: []api.Expr{a, b}})
	}
	for _, w := range words.All(api.Cee) {
		wrong = append(wrong, variable(w), call(w), index(w, a), call("f$"+w))
	}
	for _, e := range wrong {
		wantNoText(t, e)
		for _, around := range []api.Expr{not(e), op(api.ExAdd, a, e), op(api.ExAdd, e, a), index("a", e), minus(op(api.ExEq, op(api.ExMul, e, a), b))} {
			wantNoText(t, around)
		}
		if e.Op != api.ExUp || e.Name != "a" || len(e.L) > 0 {
			wantNoText(t, call("f", a, e))
		}
	}
	// One that has itself in it has no end.
	for _, o := range []int{api.ExNeg, api.ExNot, api.ExAdd, api.ExEq} {
		l := []api.Expr{a, a}
		l[0] = api.Expr{Op: o, L: l}
		wantNoText(t, l[0])
		l = l[:1:1]
		l[0].L = l
		wantNoText(t, l[0])
	}
}

// modelPrint sets brackets where the model reads something else without.
func modelPrint(e api.Expr) []string {
	within := func(ahead []string, o api.Expr, behind []string, want func(api.Expr) api.Expr) []string {
		bare := modelPrint(o)
		if got, ok := model(concat(ahead, bare, behind)); ok && tree.SameExpr(got, want(o)) {
			return bare
		}
		return concat([]string{"("}, bare, []string{")"})
	}
	z := variable("z")
	switch e.Op {
	case api.ExIndex:
		return concat([]string{e.Name, "["}, modelPrint(e.L[0]), []string{"]"})
	case api.ExCall:
		l := []string{e.Name, "("}
		for i, o := range e.L {
			if i > 0 {
				l = append(l, ",")
			}
			l = concat(l, modelPrint(o))
		}
		return append(l, ")")
	case api.ExNeg, api.ExNot:
		ahead := []string{map[int]string{api.ExNeg: "-", api.ExNot: "!"}[e.Op]}
		return concat(ahead, within(ahead, e.L[0], nil, func(o api.Expr) api.Expr { return op(e.Op, o) }))
	}
	if len(e.L) != 2 {
		return strings.Fields(strings.ReplaceAll(plain(e), ".", " . "))
	}
	sign := []string{signText(e.Op)}
	left := within(nil, e.L[0], concat(sign, []string{"z"}), func(o api.Expr) api.Expr { return op(e.Op, o, z) })
	right := within(concat([]string{"z"}, sign), e.L[1], nil, func(o api.Expr) api.Expr { return op(e.Op, z, o) })
	return concat(left, sign, right)
}

func randomExpr(rnd *rand.Rand, depth int) api.Expr {
	some := func() api.Expr { return randomExpr(rnd, depth-1) }
	leaves := []api.Expr{a, variable("f"), number(1), char1('c'), truth(0), truth(1), field("a", "f"), call("f"), call("f$g", up("a"))}
	if depth <= 1 {
		return leaves[rnd.Intn(len(leaves))]
	}
	switch kind := rnd.Intn(24); {
	case kind < 15:
		return op(api.ExMul+kind, some(), some())
	case kind < 18:
		return minus(some())
	case kind < 20:
		return not(some())
	case kind == 20:
		return index("a", some())
	case kind == 21:
		return call("f$g", some(), some(), up("a"), up("f"))
	}
	return leaves[rnd.Intn(len(leaves))]
}

func TestPrintOfRandomOnes(t *testing.T) {
	rnd := rand.New(rand.NewSource(9999))
	brackets := 0
	for range 15000 {
		e := randomExpr(rnd, 1+rnd.Intn(5))
		s, f := Print(e)
		if f != api.OK {
			t.Fatal(e, f)
		}
		wantRound(t, e, s)
		l := lex(t, s)
		got := make([]string, 0, len(l))
		for i, x := range l[:len(l)-1] {
			got = append(got, strings.TrimSpace(s[x.Pos.At:l[i+1].Pos.At]))
		}
		if want := modelPrint(e); strings.Join(got, " ") != strings.Join(want, " ") {
			t.Fatalf("Print(%v) = %q, want %q", e, s, want)
		}
		brackets += len(withoutPairs(t, s))
	}
	if brackets < 1000 {
		t.Fatal("hardly any brackets")
	}
}

// However a right expression is written, it is printed in one way.
func TestPrintOfWhatWasRead(t *testing.T) {
	rnd := rand.New(rand.NewSource(99999))
	for range 2000 {
		l := randomWords(rnd, 3)
		e, d := Read(strings.Join(l, " \n"))
		if d.Code != api.OK {
			t.Fatal(l, d)
		}
		s, f := Print(e)
		if f != api.OK {
			t.Fatal(l, f)
		}
		wantRound(t, e, s)
		if again, f := Print(e); f != api.OK || again != s {
			t.Fatal(s, again)
		}
	}
}
