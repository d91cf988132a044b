package parse

import (
	"slices"
	"strconv"
	"strings"
	"testing"

	"pantograph/api"
	"pantograph/tokens"
)

// tokensOf are those of words with blanks between them: names, signs that are no letters, numbers, and comments that begin with a # (with ##, if they stand in the line of what is ahead).
func tokensOf(s string) (l []api.Tok) {
	at := 0
	for _, word := range append(strings.Fields(s), "") {
		t := api.Tok{Kind: api.TokSign, Text: word, Pos: api.Pos{At: at, Col: at}}
		n, err := strconv.ParseInt(word, 10, 64)
		switch {
		case word == "":
			t.Kind = api.TokEnd
		case err == nil:
			t.Kind, t.Text, t.N = api.TokInt, "", n
		case word[0] == '#':
			t.Kind, t.Same = api.TokNote, strings.HasPrefix(word, "##")
		case word[0] >= 'a' && word[0] <= 'z':
			t.Kind = api.TokName
		}
		l = append(l, t)
		at += len(word) + 1
	}
	return l
}

func readerOf(s string) *Reader { return &Reader{Reader: tokens.New(tokensOf(s), 0)} }

func wantFault(t *testing.T, x *Reader, code api.Errno, at int) {
	t.Helper()
	if want := (api.Diag{Code: code, Pos: api.Pos{At: at, Col: at}}); x.Fault() != want {
		t.Fatalf("fault %v, want %v", x.Fault(), want)
	}
}

func TestCommentsAndMarks(t *testing.T) {
	x := readerOf("#a ##b #c x")
	if s := x.Comments(); !slices.Equal(s.Texts, []string{"#a", "##b", "#c"}) || s.first.At != 0 || x.Next().Text != "x" {
		t.Fatal(s)
	}
	x = readerOf("##a ##b #c ##d x")
	if m := x.Marks([]string{"e"}); !slices.Equal(m.Before, []string{"e"}) || !slices.Equal(m.Trail, []string{"##a", "##b"}) || x.Next().Text != "#c" {
		t.Fatal(m)
	}
	x.Forbid(readerOf("x").Comments())
	if x.Failed() {
		t.Fatal(x.Fault())
	}
	x.Forbid(x.Comments())
	wantFault(t, x, api.ErrPlace, 8)
	x = readerOf(strings.Repeat("# ", api.MaxItems) + "# x")
	x.Comments()
	wantFault(t, x, api.ErrLong, 2*api.MaxItems)
}

func name(x *Reader) func([]string) string {
	return func(before []string) string { return strings.Join(append(before, x.NeedName()), " ") }
}

func TestRowAndClosed(t *testing.T) {
	x := readerOf("#a b c #d e #f ) g")
	l, left := Row(x, x.Comments(), func() bool { return x.Next().Kind == api.TokName }, name(x))
	if !slices.Equal(l, []string{"#a b", "c", "#d e"}) || !slices.Equal(left.Texts, []string{"#f"}) || !x.On("+", ")")() || x.On("+")() {
		t.Fatal(l, left, x.Fault())
	}
	x = readerOf("#a b c #d e #f ) g")
	l, last := Closed(x, x.Comments(), 1, ")", name(x))
	if !slices.Equal(l, []string{"#a b", "c", "#d e"}) || !slices.Equal(last, []string{"#f"}) || x.Next().Text != "g" {
		t.Fatal(l, last, x.Fault())
	}
	x = readerOf("#a ) g")
	if l, last := Closed(x, x.Comments(), 0, ")", name(x)); len(l) != 0 || len(last) != 1 || x.Failed() {
		t.Fatal(l, last)
	}
	x = readerOf("#a ) g")
	Closed(x, x.Comments(), 1, ")", name(x))
	wantFault(t, x, api.ErrToken, 3)
	most := strings.Repeat("a ", api.MaxItems)
	for s, code := range map[string]api.Errno{most + ") b": api.OK, most + "b": api.ErrLong, most + "+": api.ErrLong, most + "#c +": api.ErrLong, most[2:] + "+": api.ErrToken} {
		x := readerOf(s)
		if Closed(x, x.Comments(), 0, ")", name(x)); x.Fault().Code != code {
			t.Fatal(s[len(most)-4:], x.Fault())
		}
	}
	for s, code := range map[string]api.Errno{most: api.OK, most + "+": api.OK, most + "b": api.ErrLong, most + "#c b": api.ErrLong} {
		x := readerOf(s)
		if Row(x, x.Comments(), func() bool { return x.Next().Kind == api.TokName }, name(x)); x.Fault().Code != code {
			t.Fatal(s[len(most)-4:], x.Fault())
		}
	}
}

func TestLimits(t *testing.T) {
	for count, code := range map[int]api.Errno{0: api.OK, api.MaxItems - 1: api.OK, api.MaxItems: api.ErrLong} {
		x, y := readerOf("a b"), readerOf("a b")
		x.NeedName()
		x.Room(count)
		y.RoomAt(count, api.Pos{At: 7})
		if x.Fault().Code != code || y.Fault().Code != code || code != api.OK && (x.Fault().Pos.At != 2 || y.Fault().Pos.At != 7) {
			t.Fatal(count, x.Fault(), y.Fault())
		}
	}
	for deep, code := range map[int]api.Errno{1: api.OK, api.MaxDepth: api.OK, api.MaxDepth + 1: api.ErrDeep} {
		x := readerOf("a b")
		x.Depth(deep)
		if x.Fault().Code != code {
			t.Fatal(deep, x.Fault())
		}
	}
	for _, size := range []int{0, 1, api.MaxSize, api.MaxSize + 1} {
		x := readerOf(strconv.Itoa(size))
		n := x.NeedSize()
		if fine := size >= 1 && size <= api.MaxSize; fine == x.Failed() || fine && n != size {
			t.Fatal(size, n, x.Fault())
		}
	}
}

func TestNeedPlace(t *testing.T) {
	for _, op := range []int{api.ExVar, api.ExCall} {
		x := readerOf("a b c")
		x.NeedName()
		e := x.NeedPlace(func(_ []api.Tok, at int) (api.Expr, int, api.Diag) { return api.Expr{Op: op}, at + 1, api.Diag{} })
		if op != api.ExCall && (e.Op != op || x.Failed() || x.Next().Text != "c") {
			t.Fatal(e, x.Fault())
		}
		if op == api.ExCall {
			wantFault(t, x, api.ErrToken, 2)
		}
	}
}

func TestFamily(t *testing.T) {
	head := func(at int, name string, result int, params ...api.Param) Heading {
		return Heading{Routine: api.Routine{Name: name, Result: result, Params: params}, First: api.Pos{At: at - 1}, At: api.Pos{At: at, Col: at}}
	}
	a := api.Param{Name: "a", T: api.Type{Kind: api.KindInt}}
	x := readerOf("x")
	f := x.Family()
	if !f.None() {
		t.Fatal("there is one")
	}
	f.Announce(head(1, "f", 0, a))
	if f.None() {
		t.Fatal("there is none")
	}
	f.Define(head(2, "g", 0))
	f.Add(api.Routine{Name: "g"})
	f.Define(head(3, "f", 0, a))
	f.Add(api.Routine{Name: "f"})
	f.NeedDefined()
	if x.Failed() || len(f.List) != 2 || !slices.Equal(x.items, []api.Pos{{At: 1}, {At: 2}}) {
		t.Fatal(x.Fault(), f.List, x.items)
	}
	for _, s := range []struct {
		code          api.Errno
		ahead, behind []Heading // announced, defined
	}{
		{api.ErrNone, []Heading{head(5, "h", 0)}, nil}, {api.ErrNone, []Heading{head(5, "h", 0), head(6, "i", 0)}, nil}, {api.ErrTwice, []Heading{head(4, "h", 0), head(5, "h", 1)}, nil},
		{api.ErrTwice, nil, []Heading{head(4, "h", 0), head(5, "h", 0)}}, {api.ErrType, []Heading{head(4, "h", 0)}, []Heading{head(5, "h", 1)}}, {api.ErrType, []Heading{head(4, "h", 0)}, []Heading{head(5, "h", 0, a)}},
		{api.OK, []Heading{head(4, "h", 0)}, []Heading{head(5, "h", 0)}}, {api.ErrTwice, []Heading{head(4, "h", 0)}, []Heading{head(3, "h", 0), head(5, "h", 1)}},
	} {
		x := readerOf("x")
		f := x.Family()
		for _, h := range s.ahead {
			f.Announce(h)
		}
		for _, h := range s.behind {
			f.Define(h)
		}
		f.NeedDefined()
		if x.Fault().Code != s.code || s.code != api.OK && x.Fault().Pos.At != 5 {
			t.Fatal(s, x.Fault())
		}
	}
}

func TestWhole(t *testing.T) {
	fault := api.Diag{Code: api.ErrByte, Pos: api.Pos{At: 3}}
	lex := func(s string) ([]api.Tok, api.Diag) {
		if s == "" {
			return nil, fault
		}
		return tokensOf(s), api.Diag{}
	}
	program := func(x *Reader) api.Program {
		x.Item(x.Next().Pos)
		p := api.Program{Name: x.NeedName()}
		x.NeedEnd()
		return p
	}
	if p, items, d := Whole("", lex, program); p.Name != "" || len(items) != 0 || d != fault {
		t.Fatal(p, items, d)
	}
	if p, items, d := Whole("a b", lex, program); p.Name != "" || len(items) != 0 || d.Code != api.ErrToken || d.Pos.At != 2 {
		t.Fatal(p, items, d)
	}
	if p, items, d := Whole("a", lex, program); p.Name != "a" || !slices.Equal(items, []api.Pos{{}}) || d != (api.Diag{}) {
		t.Fatal(p, items, d)
	}
}
