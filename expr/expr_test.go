package expr

import (
	"math"
	"slices"
	"testing"

	"pantograph/api"
	"pantograph/tree"
)

var a, b = api.Expr{Op: api.ExVar, Name: "a"}, api.Expr{Op: api.ExVar, Name: "b"}

func call(operands ...api.Expr) api.Expr {
	return api.Expr{Op: api.ExCall, Name: "f", L: operands}
}

func up(name string) api.Expr { return api.Expr{Op: api.ExUp, Name: name} }

func place(at int) api.Pos { return api.Pos{At: at, Col: at} }

func TestOf(t *testing.T) {
	if e := Of(api.ExAdd, a, b); e.Op != api.ExAdd || len(e.L) != 2 || !tree.SameExpr(e.L[0], a) || !tree.SameExpr(e.L[1], b) {
		t.Fatal(e)
	}
}

func TestConstant(t *testing.T) {
	for _, x := range []struct {
		t    api.Tok
		want api.Expr
	}{
		{api.Tok{Kind: api.TokInt, N: 7}, api.Expr{Op: api.ExInt, N: 7}},
		{api.Tok{Kind: api.TokChar, N: 7}, api.Expr{Op: api.ExChar, N: 7}},
		{api.Tok{Kind: api.TokWord, Text: "false"}, api.Expr{Op: api.ExBool}},
		{api.Tok{Kind: api.TokWord, Text: "true"}, api.Expr{Op: api.ExBool, N: 1}},
	} {
		r := NewReader([]api.Tok{x.t}, 0)
		if e := r.Constant(); !tree.SameExpr(e, x.want) || r.At() != 1 || r.Fault() != (api.Diag{}) {
			t.Fatal(x, e, r.Fault())
		}
	}
	for _, x := range []api.Tok{{}, {Kind: api.TokName, Text: "true"}, {Kind: api.TokWord, Text: "truth"}, {Kind: api.TokSign, Text: "("}, {Kind: api.TokNote, Text: "true"}} {
		x.Pos = place(5)
		code := api.ErrToken
		if x.Kind == api.TokNote {
			code = api.ErrPlace
		}
		r := NewReader([]api.Tok{x}, 0)
		if e := r.Constant(); !tree.SameExpr(e, api.Expr{}) || r.At() != 0 || r.Fault() != (api.Diag{Code: code, Pos: place(5)}) {
			t.Fatal(x, e, r.Fault())
		}
	}
}

// nested is an expression so deep.
func nested(deep int) api.Expr {
	e := a
	for range deep - 1 {
		e = Of(api.ExNot, e)
	}
	return e
}

func TestAnswer(t *testing.T) {
	most := make([]api.Expr, api.MaxItems)
	more := make([]api.Expr, api.MaxItems+1)
	ups := append(slices.Repeat([]api.Expr{a}, 12), slices.Repeat([]api.Expr{up("a")}, api.MaxItems-11)...)
	list := []api.Tok{{Kind: api.TokName, Pos: place(3)}, {Kind: api.TokName, Pos: place(5)}, {Kind: api.TokName, Pos: place(7)}}
	for _, x := range []struct {
		e    api.Expr
		code api.Errno
	}{
		{a, api.OK}, {call(), api.OK}, {call(most...), api.OK}, {call(more...), api.ErrLong}, {call(ups[1:]...), api.OK}, {call(ups...), api.ErrLong},
		{Of(api.ExAdd, call(most...), call(most...)), api.OK}, {Of(api.ExAdd, b, call(call(), call(more...))), api.ErrLong},
		{Of(api.ExAdd, more...), api.OK},
		{nested(api.MaxDepth), api.OK}, {nested(api.MaxDepth + 1), api.ErrDeep}, {Of(api.ExAdd, a, nested(api.MaxDepth)), api.ErrDeep}, {Of(api.ExAdd, nested(api.MaxDepth), a), api.ErrDeep},
		{Of(api.ExAdd, nested(api.MaxDepth), call(more...)), api.ErrLong},
	} {
		r := NewReader(list, 1)
		r.NeedName()
		e, next, d := r.Answer(x.e)
		switch {
		case x.code == api.OK && (d != api.Diag{} || next != 2 || !tree.SameExpr(e, x.e)):
			t.Fatal(next, d)
		case x.code != api.OK && (d != api.Diag{Code: x.code, Pos: place(5)} || next != 1 || e.Op != 0):
			t.Fatal(next, d, x.code)
		}
		r.Fail(api.ErrName, place(9)) // a fault stands ahead of the limits
		if e, next, d := r.Answer(x.e); e.Op != 0 || next != 1 || d != (api.Diag{Code: api.ErrName, Pos: place(9)}) {
			t.Fatal(e, next, d)
		}
	}
}

func TestMeasure(t *testing.T) {
	deepUp := api.Expr{Op: api.ExUp, L: []api.Expr{nested(9)}}
	for _, x := range []struct {
		e          api.Expr
		deep, long int
	}{
		{api.Expr{}, 1, 0}, {a, 1, 0}, {call(), 1, 0}, {call(a), 2, 1}, {call(up("a")), 1, 1}, {call(a, up("a"), up("b")), 2, 3}, {call(deepUp), 1, 1},
		{nested(7), 7, 0}, {call(call(a, b), call(call())), 3, 2}, {Of(api.ExAdd, nested(3), nested(5)), 6, 0}, {Of(api.ExAdd, nested(5), nested(3)), 6, 0},
		{call(nested(4), call(a, a, up("b"))), 5, 3}, {nested(1 << 22), 1 << 22, 0},
	} {
		if deep, long := measure(x.e); deep != x.deep || long != x.long {
			t.Fatalf("%d, %d, want %d, %d", deep, long, x.deep, x.long)
		}
	}
}

func TestRead(t *testing.T) {
	toks := []api.Tok{{Kind: api.TokName, Pos: place(0)}, {Kind: api.TokSign, Pos: place(2)}, {Kind: api.TokNote, Pos: place(4)}, {Kind: api.TokEnd, Pos: place(6)}}
	bad := api.Diag{Code: api.ErrByte, Pos: place(8)}
	lex := func(s string) ([]api.Tok, api.Diag) {
		if s == "unread" {
			return nil, bad
		}
		return toks, api.Diag{}
	}
	ending := func(next int, d api.Diag) func([]api.Tok, int) (api.Expr, int, api.Diag) {
		return func(l []api.Tok, at int) (api.Expr, int, api.Diag) {
			if len(l) != len(toks) || at != 0 {
				t.Fatal(l, at)
			}
			if d != (api.Diag{}) {
				return api.Expr{}, at, d
			}
			return a, next, d
		}
	}
	for _, x := range []struct {
		s    string
		next int
		d    api.Diag
		want api.Diag
	}{
		{"a", 3, api.Diag{}, api.Diag{}}, {"a", 4, api.Diag{}, api.Diag{}}, {"a", 0, bad, bad}, {"unread", 3, api.Diag{}, bad}, {"unread", 3, api.Diag{Code: api.ErrDeep}, bad},
		{"a", 1, api.Diag{}, api.Diag{Code: api.ErrToken, Pos: place(2)}}, {"a", 2, api.Diag{}, api.Diag{Code: api.ErrPlace, Pos: place(4)}},
	} {
		e, d := Read(x.s, lex, ending(x.next, x.d))
		if d != x.want || (e.Op == api.ExVar) != (d.Code == api.OK) {
			t.Fatal(x, e, d)
		}
	}
}

// words writes all signs as words, so that one sees what comes from the style.
func words() Style {
	return Style{
		Sign: func(op int) Sign {
			switch op {
			case api.ExAdd:
				return Sign{Text: "plus", Level: 1, Left: 1, Right: 2}
			case api.ExMul:
				return Sign{Text: "times", Level: 2, Left: 2, Right: 3}
			case api.ExNeg:
				return Sign{Text: "minus ", Level: 2, Right: 3}
			case api.ExNot:
				return Sign{Text: "no ", Level: 3, Right: 3}
			}
			return Sign{Level: 3}
		},
		Char: func(n int64) string { return "char" + string(rune(n)) },
	}
}

func TestPrint(t *testing.T) {
	plus := func(a, b api.Expr) api.Expr { return Of(api.ExAdd, a, b) }
	times := func(a, b api.Expr) api.Expr { return Of(api.ExMul, a, b) }
	for _, x := range []struct {
		e    api.Expr
		want string
	}{
		{a, "a"}, {api.Expr{Op: api.ExInt, N: math.MaxInt64}, "9223372036854775807"}, {api.Expr{Op: api.ExBool}, "false"}, {api.Expr{Op: api.ExBool, N: 1}, "true"}, {api.Expr{Op: api.ExChar, N: 'x'}, "charx"},
		{api.Expr{Op: api.ExField, Name: "a", Field: "b"}, "a.b"}, {api.Expr{Op: api.ExIndex, Name: "a", L: []api.Expr{plus(a, b)}}, "a[a plus b]"},
		{call(), "f()"}, {call(plus(a, b), b), "f(a plus b, b)"}, {call(a, up("a"), up("b")), "f(a, up a, up b)"},
		{plus(plus(a, b), plus(a, b)), "a plus b plus (a plus b)"}, {times(plus(a, b), times(a, b)), "(a plus b) times (a times b)"}, {plus(times(a, b), times(a, b)), "a times b plus a times b"},
		{Of(api.ExNeg, times(a, b)), "minus (a times b)"}, {Of(api.ExNeg, Of(api.ExNot, a)), "minus no a"}, {times(Of(api.ExNeg, a), Of(api.ExNeg, a)), "minus a times (minus a)"}, {Of(api.ExNot, Of(api.ExNeg, a)), "no (minus a)"},
	} {
		if s, f := Print(api.Cee, x.e, words()); s != x.want || f != api.OK {
			t.Fatalf("%q, %v, want %q", s, f, x.want)
		}
	}
	// Of the dialect that is asked for.
	for _, x := range []struct {
		dialect int
		e       api.Expr
		want    api.Errno
	}{
		{api.Pas, a, api.OK}, {api.Pas, call(up("a")), api.ErrArg}, {api.Cee, call(up("a")), api.OK}, {api.Cee, up("a"), api.ErrArg},
		{api.Pas, api.Expr{Op: api.ExVar, Name: "end"}, api.ErrArg}, {api.Cee, api.Expr{Op: api.ExVar, Name: "end"}, api.OK}, {2, a, api.ErrArg}, {-1, a, api.ErrArg},
		{api.Cee, api.Expr{}, api.ErrArg}, {api.Cee, nested(api.MaxDepth), api.OK}, {api.Cee, nested(api.MaxDepth + 1), api.ErrArg},
	} {
		if s, f := Print(x.dialect, x.e, words()); f != x.want || (s == "") != (f != api.OK) {
			t.Fatalf("%v: %q, %v", x, s, f)
		}
	}
}
