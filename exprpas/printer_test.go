package exprpas

import (
	"math"
	"math/rand"
	"strconv"
	"strings"
	"testing"

	"pantograph/api"
	"pantograph/lexpas"
	"pantograph/tree"
	"pantograph/words"
)

// wantPrint is P8.2 and P8.3 of one expression.
func wantPrint(t *testing.T, e api.Expr, want string) {
	t.Helper()
	got, f := Print(e)
	if f != api.OK || got != want {
		t.Fatalf("Print(%v) = %q, %v, want %q", e, got, f, want)
	}
	wantRound(t, e, got)
}

func wantRound(t *testing.T, e api.Expr, s string) {
	t.Helper()
	if again, d := Read(s); d != (api.Diag{}) || !tree.SameExpr(again, e) {
		t.Fatalf("Read(%q) = %v, %v, want %v", s, again, d, e)
	}
	for _, fewer := range withoutPairs(t, s) {
		if other, d := Read(fewer); d.Code == api.OK && tree.SameExpr(other, e) {
			t.Fatalf("%q is %q: brackets too many", s, fewer)
		}
	}
}

// withoutPairs is s without each one pair of ( ) that is no call's.
func withoutPairs(t *testing.T, s string) (out []string) {
	l, d := lexpas.All(s)
	if d.Code != api.OK {
		t.Fatal(s, d)
	}
	ws := wordsOf(l)
	for i := range l {
		if ws[i] != "(" || i > 0 && l[i-1].Kind == api.TokName {
			continue
		}
		from, to := l[i].Pos.At, l[closedBy(ws, i)].Pos.At
		out = append(out, s[:from]+" "+s[from+1:to]+" "+s[to+1:])
	}
	return out
}

func wantNoText(t *testing.T, e api.Expr) {
	t.Helper()
	if s, f := Print(e); s != "" || f != api.ErrArg {
		t.Fatalf("Print(%v) = %q, %v", e, s, f)
	}
}

func TestPrintOfEachOp(t *testing.T) {
	wantPrint(t, number(0), "0")
	wantPrint(t, number(math.MaxInt64), "9223372036854775807")
	wantPrint(t, truth(0), "false")
	wantPrint(t, truth(1), "true")
	wantPrint(t, a, "a")
	wantPrint(t, variable("int"), "int")
	wantPrint(t, variable(strings.Repeat("z", api.MaxName)), strings.Repeat("z", api.MaxName))
	wantPrint(t, index("a", number(1)), "a[1]")
	wantPrint(t, field("a", "b"), "a.b")
	wantPrint(t, call("f"), "f()")
	wantPrint(t, call("f", a), "f(a)")
	wantPrint(t, call("f", a, b, number(3)), "f(a, b, 3)")
	wantPrint(t, op(api.ExNeg, a), "-a")
	wantPrint(t, op(api.ExNot, a), "not a")
	for _, level := range levels {
		for _, x := range level {
			wantPrint(t, op(x.op, a, b), "a "+x.sign+" b")
		}
	}
}

func TestPrintOfChars(t *testing.T) {
	for n := range int64(256) {
		want := "#" + strconv.FormatInt(n, 10)
		if n >= 0x20 && n <= 0x7e {
			want = "'" + string([]byte{byte(n)}) + "'"
		}
		if n == 0x27 {
			want = "''''"
		}
		wantPrint(t, char1(n), want)
		wantPrint(t, op(api.ExAdd, char1(n), char1(n)), want+" + "+want)
		wantPrint(t, call("f", char1(n), index("a", char1(n))), "f("+want+", a["+want+"])")
	}
}

// ofEach is an expression of each Op with operands that have no sign, and the level that the chapter gives it.
func ofEach() map[int][]api.Expr {
	all := map[int][]api.Expr{
		2: {op(api.ExNeg, a)},
		4: {number(1), truth(1), char1('a'), a, index("a", b), field("a", "b"), call("f"), call("f", a, b), op(api.ExNot, a)},
	}
	for i, level := range levels {
		for _, x := range level {
			all[i+1] = append(all[i+1], op(x.op, a, b))
		}
	}
	return all
}

// The levels that a place asks for are those of the chapter.
func TestBracketsOfEachPair(t *testing.T) {
	leftAsks, rightAsks := [...]int{2, 2, 3}, [...]int{2, 3, 4}
	for own, operands := range ofEach() {
		for _, e := range operands {
			inner, _ := Print(e)
			at := func(asked int) string {
				if own < asked {
					return "(" + inner + ")"
				}
				return inner
			}
			for i, level := range levels {
				for _, x := range level {
					wantPrint(t, op(x.op, e, c), at(leftAsks[i])+" "+x.sign+" c")
					wantPrint(t, op(x.op, c, e), "c "+x.sign+" "+at(rightAsks[i]))
					wantPrint(t, op(x.op, e, e), at(leftAsks[i])+" "+x.sign+" "+at(rightAsks[i]))
				}
			}
			wantPrint(t, op(api.ExNeg, e), "-"+at(3))
			wantPrint(t, op(api.ExNot, e), "not "+at(4))
			wantPrint(t, index("a", e), "a["+inner+"]")
			wantPrint(t, call("f", e), "f("+inner+")")
			wantPrint(t, call("f", e, e), "f("+inner+", "+inner+")")
		}
	}
}

func TestPrintOfDeeperOnes(t *testing.T) {
	minus := func(e api.Expr) api.Expr { return op(api.ExNeg, e) }
	wantPrint(t, op(api.ExAdd, op(api.ExAdd, a, b), c), "a + b + c")
	wantPrint(t, op(api.ExAdd, a, op(api.ExAdd, b, c)), "a + (b + c)")
	wantPrint(t, op(api.ExAdd, minus(op(api.ExMul, a, b)), c), "-a * b + c")
	wantPrint(t, op(api.ExMul, op(api.ExMul, minus(a), b), c), "(-a) * b * c")
	wantPrint(t, minus(op(api.ExMul, minus(a), b)), "-(-a) * b")
	wantPrint(t, minus(minus(minus(a))), "-(-(-a))")
	wantPrint(t, op(api.ExSub, a, op(api.ExSub, minus(b), c)), "a - (-b - c)")
	wantPrint(t, op(api.ExEq, op(api.ExEq, a, b), op(api.ExEq, minus(c), d)), "(a = b) = (-c = d)")
	wantPrint(t, op(api.ExNot, op(api.ExNot, op(api.ExAnd, a, b))), "not not (a and b)")
	wantPrint(t, op(api.ExAndThen, op(api.ExOrElse, a, b), op(api.ExNot, op(api.ExOrElse, c, d))), "(a or else b) and then not (c or else d)")
	wantPrint(t, op(api.ExMul, op(api.ExAdd, a, op(api.ExMul, b, c)), call("f", op(api.ExAdd, a, b))), "(a + b * c) * f(a + b)")
}

func TestPrintAtTheLimits(t *testing.T) {
	for name, wrap := range map[string]func(api.Expr) api.Expr{
		"not": func(e api.Expr) api.Expr { return op(api.ExNot, e) }, "-": func(e api.Expr) api.Expr { return op(api.ExNeg, e) },
		"call": func(e api.Expr) api.Expr { return call("f", a, e) }, "element": func(e api.Expr) api.Expr { return index("a", e) },
		"left": func(e api.Expr) api.Expr { return op(api.ExSub, e, b) }, "right": func(e api.Expr) api.Expr { return op(api.ExSub, b, e) },
	} {
		e := a
		for depth := 1; depth <= api.MaxDepth+2; depth++ {
			if depth > api.MaxDepth {
				wantNoText(t, e)
			} else if s, f := Print(e); f != api.OK {
				t.Fatal(name, depth, f)
			} else {
				wantRound(t, e, s)
			}
			e = wrap(e)
		}
	}
	var operands []api.Expr
	for range api.MaxItems {
		operands = append(operands, number(7))
	}
	wantPrint(t, call("f", operands...), "f("+strings.TrimSuffix(strings.Repeat("7, ", api.MaxItems), ", ")+")")
	wantNoText(t, call("f", append(operands, number(7))...))
}

// A text longer than a text that can be read is printed nevertheless.
func TestPrintOfMoreThanATextHolds(t *testing.T) {
	long := variable(strings.Repeat("z", api.MaxName))
	var operands, rows []api.Expr
	for range api.MaxItems {
		operands = append(operands, long)
	}
	for range 8 {
		rows = append(rows, call("f", operands...))
	}
	s, f := Print(call("g", rows...))
	one := "f(" + strings.TrimSuffix(strings.Repeat(long.Name+", ", api.MaxItems), ", ") + ")"
	if want := "g(" + strings.TrimSuffix(strings.Repeat(one+", ", 8), ", ") + ")"; f != api.OK || s != want || len(s) <= api.MaxText {
		t.Fatal(len(s), f)
	}
}

func TestPrintOfWhatIsNotRight(t *testing.T) {
	wrong := []api.Expr{
		{}, {Op: -1}, {Op: math.MinInt}, {Op: math.MaxInt}, {Op: api.ExUp, Name: "a"}, {Op: api.ExGe + 1}, {Op: 26},
		number(-1), number(math.MinInt64), truth(-1), truth(2), truth(math.MaxInt64), char1(-1), char1(256), char1(math.MinInt64),
		{Op: api.ExInt, Name: "a"}, {Op: api.ExInt, L: []api.Expr{a}}, {Op: api.ExVar, Name: "a", N: 1}, {Op: api.ExVar, Name: "a", Field: "b"},
		variable(""), variable("A"), variable("a b"), variable("1"), variable("a$b"), variable(strings.Repeat("z", api.MaxName+1)),
		{Op: api.ExIndex, Name: "a"}, {Op: api.ExIndex, L: []api.Expr{a}}, {Op: api.ExIndex, Name: "a", L: []api.Expr{a, b}},
		field("a", ""), field("", "a"), field("a", "end"), field("end", "a"), field("a", "B"),
		call(""), call("f$g"), call("f", api.Expr{}), call("f", a, api.Expr{Op: api.ExUp, Name: "a"}), {Op: api.ExCall, Name: "f", Field: "g"},
		op(api.ExNeg), op(api.ExNeg, a, b), op(api.ExNot), op(api.ExNot, a, b),
	}
	for o := api.ExMul; o <= api.ExGe; o++ {
		wrong = append(wrong, op(o), op(o, a), op(o, a, b, c), op(o, a, number(-1)), op(o, variable("end"), a), api.Expr{Op: o, N: 1, L: []api.Expr{a, b}}, api.Expr{Op: o, Name: "a", L: []api.Expr{a, b}})
	}
	for _, w := range words.All(api.Pas) {
		wrong = append(wrong, variable(w), call(w), index(w, a))
	}
	for _, e := range wrong {
		wantNoText(t, e)
		for _, around := range []api.Expr{op(api.ExNot, e), op(api.ExAdd, a, e), op(api.ExAdd, e, a), call("f", a, e), index("a", e), op(api.ExNeg, op(api.ExEq, op(api.ExMul, e, a), b))} {
			wantNoText(t, around)
		}
	}
	// One that has itself in it has no end.
	for _, o := range []int{api.ExNeg, api.ExNot, api.ExAdd, api.ExEq} {
		l := []api.Expr{a, a}
		l[0] = api.Expr{Op: o, L: l}
		wantNoText(t, l[0])
		l = l[:1:1]
		l[0].L = l
		wantNoText(t, l[0])
	}
}

// modelPrint sets brackets where the model reads something else without.
func modelPrint(e api.Expr) []string {
	within := func(ahead []string, o api.Expr, behind []string, want func(api.Expr) api.Expr) []string {
		bare := modelPrint(o)
		if got, ok := model(concat(ahead, bare, behind)); ok && tree.SameExpr(got, want(o)) {
			return bare
		}
		return concat([]string{"("}, bare, []string{")"})
	}
	z := variable("z")
	switch e.Op {
	case api.ExIndex:
		return concat([]string{e.Name, "["}, modelPrint(e.L[0]), []string{"]"})
	case api.ExCall:
		l := []string{e.Name, "("}
		for i, o := range e.L {
			if i > 0 {
				l = append(l, ",")
			}
			l = concat(l, modelPrint(o))
		}
		return append(l, ")")
	case api.ExNeg, api.ExNot:
		ahead := []string{map[int]string{api.ExNeg: "-", api.ExNot: "not"}[e.Op]}
		return concat(ahead, within(ahead, e.L[0], nil, func(o api.Expr) api.Expr { return op(e.Op, o) }))
	}
	if len(e.L) != 2 {
		return strings.Fields(strings.ReplaceAll(leafText(e), ".", " . "))
	}
	sign := strings.Fields(signText(e.Op))
	left := within(nil, e.L[0], concat(sign, []string{"z"}), func(o api.Expr) api.Expr { return op(e.Op, o, z) })
	right := within(concat([]string{"z"}, sign), e.L[1], nil, func(o api.Expr) api.Expr { return op(e.Op, z, o) })
	return concat(left, sign, right)
}

func leafText(e api.Expr) string {
	if e.Op == api.ExChar {
		return "'" + string(rune(e.N)) + "'"
	}
	return plain(e)
}

func randomExpr(rnd *rand.Rand, depth int) api.Expr {
	some := func() api.Expr { return randomExpr(rnd, depth-1) }
	leaves := []api.Expr{a, variable("f"), number(1), char1('c'), truth(0), truth(1), field("a", "f"), call("f")}
	if depth <= 1 {
		return leaves[rnd.Intn(len(leaves))]
	}
	switch kind := rnd.Intn(24); {
	case kind < 15:
		return op(api.ExMul+kind, some(), some())
	case kind < 18:
		return op(api.ExNeg, some())
	case kind < 20:
		return op(api.ExNot, some())
	case kind == 20:
		return index("a", some())
	case kind == 21:
		return call("f", some(), some(), some())
	}
	return leaves[rnd.Intn(len(leaves))]
}

func TestPrintOfRandomOnes(t *testing.T) {
	rnd := rand.New(rand.NewSource(888))
	brackets := 0
	for range 20000 {
		e := randomExpr(rnd, 1+rnd.Intn(5))
		s, f := Print(e)
		if f != api.OK {
			t.Fatal(e, f)
		}
		wantRound(t, e, s)
		l, _ := lexpas.All(s)
		got := make([]string, 0, len(l))
		for i, x := range l[:len(l)-1] {
			got = append(got, strings.TrimSpace(s[x.Pos.At:l[i+1].Pos.At]))
		}
		if want := modelPrint(e); strings.Join(got, "\n") != strings.Join(want, "\n") {
			t.Fatalf("Print(%v) = %q, want %q", e, s, want)
		}
		brackets += len(withoutPairs(t, s))
	}
	if brackets < 1000 {
		t.Fatal("hardly any brackets")
	}
}

// However a right expression is written, it is printed in one way.
func TestPrintOfWhatWasRead(t *testing.T) {
	rnd := rand.New(rand.NewSource(8888))
	for range 2000 {
		l := randomWords(rnd, 3)
		e, d := Read(strings.Join(l, " \n"))
		if d.Code != api.OK {
			t.Fatal(l, d)
		}
		s, f := Print(e)
		if f != api.OK {
			t.Fatal(l, f)
		}
		wantRound(t, e, s)
		if again, f := Print(e); f != api.OK || again != s {
			t.Fatal(s, again)
		}
	}
}
