package scan

import (
	"slices"
	"strings"
	"testing"

	"pantograph/api"
	"pantograph/words"
)

func TestSignTakesTheLongestInWhateverOrder(t *testing.T) {
	for _, signs := range [][]string{{"<", "<=", "<=>"}, {"<=>", "<=", "<"}, {"<=", "<=>", "<", "="}} {
		for s, want := range map[string]string{"<": "<", "<x": "<", "<=": "<=", "<=x": "<=", "<=>=": "<=>"} {
			x := New(api.Pas, s)
			tok, e := x.Sign(signs...)
			if e != api.OK || tok != (api.Tok{Kind: api.TokSign, Text: want}) || x.Pos().At != len(want) {
				t.Fatalf("%q of %q: %v, %d, at %v", signs, s, tok, e, x.Pos())
			}
		}
	}
}

func TestSignThatIsNoneMovesNothing(t *testing.T) {
	for _, signs := range [][]string{nil, {""}, {"<=", ">"}} {
		x := New(api.Pas, "< =")
		if tok, e := x.Sign(signs...); e != api.ErrByte || tok != (api.Tok{}) || x.Pos().At != 0 {
			t.Fatalf("%q: %v, %d, at %v", signs, tok, e, x.Pos())
		}
	}
}

func TestNameIsAWordOfItsDialect(t *testing.T) {
	for _, dialect := range []int{api.Pas, api.Cee} {
		for _, name := range append(append(words.All(api.Pas), words.All(api.Cee)...), "x", strings.Repeat("a", api.MaxName)) {
			want := api.Tok{Kind: api.TokName, Text: name}
			if words.Is(dialect, name) {
				want.Kind = api.TokWord
			}
			if tok, e := New(dialect, "").Name(name); e != api.OK || tok != want {
				t.Fatalf("%q: %v, %d", name, tok, e)
			}
		}
		if tok, e := New(dialect, "").Name(strings.Repeat("a", api.MaxName+1)); e != api.ErrLong || tok != (api.Tok{}) {
			t.Fatalf("%v, %d", tok, e)
		}
	}
}

func TestNameOfParts(t *testing.T) {
	most := strings.Repeat("a", api.MaxName)
	x := New(api.Cee, "")
	for _, c := range []struct {
		parts []string
		want  string
	}{{[]string{"f", "g"}, "f$g"}, {[]string{"int", "int"}, "int$int"}, {[]string{most, most, most}, most + "$" + most + "$" + most}} {
		if tok, e := x.Name(c.parts...); e != api.OK || tok != (api.Tok{Kind: api.TokName, Text: c.want}) {
			t.Fatalf("%q: %v, %d", c.parts, tok, e)
		}
	}
	for i := range 3 {
		parts := []string{"f", most, "g"}
		parts[i] = most + "a"
		if tok, e := x.Name(parts...); e != api.ErrLong || tok != (api.Tok{}) {
			t.Fatalf("%q: %v, %d", parts, tok, e)
		}
	}
}

func TestTakeMovesIfItFits(t *testing.T) {
	x := New(api.Cee, "a$b")
	for _, c := range []struct {
		ahead string
		took  bool
		at    int
	}{{"b", false, 0}, {"a$c", false, 0}, {"a$bc", false, 0}, {"", true, 0}, {"a$", true, 2}, {"b", true, 3}, {"b", false, 3}} {
		if got := x.Take(c.ahead); got != c.took || x.Pos().At != c.at {
			t.Fatalf("Take(%q): %v, at %v", c.ahead, got, x.Pos())
		}
	}
}

func TestQuotedLeavesOutWhatIsSpecial(t *testing.T) {
	for n := range 256 {
		s := string([]byte{'\'', byte(n), '\''})
		for _, special := range []string{"", "\\", "a\\"} {
			want := api.OK
			if n < 0x20 || n > 0x7e || n == '\'' || strings.Contains(special, s[1:2]) {
				want = api.ErrQuote
			}
			tok, e := New(api.Cee, s).Quoted(special)
			if e != want || e == api.OK && tok != Char(int64(n)) || e != api.OK && tok != (api.Tok{}) {
				t.Fatalf("%q: %v, %d", s, tok, e)
			}
		}
	}
}

// Comments are those of the dialect: what begins one in the other is left to the lexer.
func TestTokensTakesCommentsOfItsDialect(t *testing.T) {
	for dialect, s := range map[int]string{api.Pas: "{n}12\n;", api.Cee: "/*n*/12\n;"} {
		x := New(dialect, s)
		at := strings.Index(s, "12")
		want := []api.Tok{
			{Kind: api.TokNote, Text: "n"},
			{Kind: api.TokInt, N: 12, Same: true, Pos: api.Pos{At: at, Col: at}},
			{Kind: api.TokSign, Text: ";", Pos: api.Pos{At: at + 3, Line: 1}},
			{Kind: api.TokEnd, Same: true, Pos: api.Pos{At: at + 4, Line: 1, Col: 1}},
		}
		got, d := x.Tokens(func(first byte) (api.Tok, api.Errno) { return x.Sign(";") })
		if !slices.Equal(got, want) || d != (api.Diag{}) {
			t.Fatalf("%q: %v, %v", s, got, d)
		}
		other := New(1-dialect, s)
		got, d = other.Tokens(func(first byte) (api.Tok, api.Errno) { return other.Sign(";") })
		if len(got) != 0 || d != (api.Diag{Code: api.ErrByte}) {
			t.Fatalf("%q: %v, %v", s, got, d)
		}
	}
}
