package lexcee

import (
	"math"
	"regexp"
	"slices"
	"strconv"
	"strings"
	"testing"

	"pantograph/api"
	"pantograph/note"
	"pantograph/text"
	"pantograph/words"
)

const (
	someBlanks   = "\t\n\r "
	smallLetters = "abcdefghijklmnopqrstuvwxyz"
)

// The signs as the chapter writes them.
const ceeSigns = "&& || == != <= >= = < > + - * / % & | ! ( ) [ ] { } ; , ."

func nameTok(s string) api.Tok { return api.Tok{Kind: api.TokName, Text: s} }
func wordTok(s string) api.Tok { return api.Tok{Kind: api.TokWord, Text: s} }
func signTok(s string) api.Tok { return api.Tok{Kind: api.TokSign, Text: s} }
func noteTok(s string) api.Tok { return api.Tok{Kind: api.TokNote, Text: s} }
func intTok(n int64) api.Tok   { return api.Tok{Kind: api.TokInt, N: n} }
func charTok(n int64) api.Tok  { return api.Tok{Kind: api.TokChar, N: n} }

func tokensOf(t *testing.T, s string) []api.Tok {
	t.Helper()
	got, d := All(s)
	if d != (api.Diag{}) {
		t.Fatalf("All(%q): %v", s, d)
	}
	if len(got) == 0 || got[len(got)-1].Kind != api.TokEnd {
		t.Fatalf("All(%q) = %v: no end", s, got)
	}
	return got
}

// bare is what P6.2 says that blanks don't change.
func bare(all []api.Tok) []api.Tok {
	out := slices.Clone(all)
	for i := range out {
		out[i].Pos = api.Pos{}
		out[i].Same = false
	}
	return out
}

// wantTokens holds all but the places and Same against want, behind which the end stands.
func wantTokens(t *testing.T, s string, want ...api.Tok) {
	t.Helper()
	if got := bare(tokensOf(t, s)); !slices.Equal(got, append(slices.Clone(want), api.Tok{})) {
		t.Fatalf("All(%q) = %v, want %v and an end", s, got, want)
	}
}

func wantWrong(t *testing.T, s string, e api.Errno, at int) {
	t.Helper()
	got, d := All(s)
	if want := (api.Diag{Code: e, Pos: text.At(s, at)}); len(got) != 0 || d != want {
		t.Fatalf("All(%q) = %v, %v, want %v alone", s, got, d, want)
	}
}

// wantWrongAnywhere sets s, that is wrong from its beginning on, behind what is right, in the first line and in others.
func wantWrongAnywhere(t *testing.T, s string, e api.Errno) {
	t.Helper()
	for _, ahead := range []string{"", " ", "\n", "x=1; ", "/*\n\n*/", "{\r\n  x = 'a';\n\t", "f$x\n"} {
		wantWrong(t, ahead+s, e, len(ahead))
	}
}

func TestChaptersExample(t *testing.T) {
	want := []api.Tok{
		{Kind: api.TokName, Text: "f$g"},
		{Kind: api.TokSign, Text: "(", Same: true, Pos: api.Pos{At: 3, Col: 3}},
		{Kind: api.TokChar, N: 10, Same: true, Pos: api.Pos{At: 4, Col: 4}},
		{Kind: api.TokSign, Text: ")", Same: true, Pos: api.Pos{At: 10, Col: 10}},
		{Kind: api.TokNote, Text: "c", Same: true, Pos: api.Pos{At: 11, Col: 11}},
		{Kind: api.TokSign, Text: ";", Same: true, Pos: api.Pos{At: 16, Col: 16}},
		{Kind: api.TokEnd, Same: true, Pos: api.Pos{At: 17, Col: 17}},
	}
	if got := tokensOf(t, `f$g('\x0a')/*c*/;`); !slices.Equal(got, want) {
		t.Fatalf("%v, want %v", got, want)
	}
}

func TestProgram(t *testing.T) {
	s := "program p; /* says */\nint a[3];\r\nvoid f$g(up int &x) {\n\tx = -12 / 5 % a[0];\n}\n"
	want := []api.Tok{
		wordTok("program"), nameTok("p"), signTok(";"), noteTok(" says "),
		wordTok("int"), nameTok("a"), signTok("["), intTok(3), signTok("]"), signTok(";"),
		wordTok("void"), nameTok("f$g"), signTok("("), wordTok("up"), wordTok("int"), signTok("&"), nameTok("x"), signTok(")"), signTok("{"),
		nameTok("x"), signTok("="), signTok("-"), intTok(12), signTok("/"), intTok(5), signTok("%"), nameTok("a"), signTok("["), intTok(0), signTok("]"), signTok(";"),
		signTok("}"),
	}
	wantTokens(t, s, want...)
	notSame := []int{0, 4, 10, 19, 31, 32}
	for i, tok := range tokensOf(t, s) {
		if tok.Same == slices.Contains(notSame, i) {
			t.Fatalf("token %d: %v", i, tok)
		}
		if tok.Pos != text.At(s, tok.Pos.At) {
			t.Fatalf("token %d: %v", i, tok)
		}
	}
}

func TestNoTokens(t *testing.T) {
	for _, s := range []string{"", " ", "\t", "\n", "\r", "\r\n", " \t\r\n \n\t ", strings.Repeat(" ", api.MaxText), strings.Repeat("\n", api.MaxText)} {
		want := []api.Tok{{Kind: api.TokEnd, Pos: text.At(s, len(s))}}
		if got := tokensOf(t, s); !slices.Equal(got, want) {
			t.Fatalf("%d bytes: %v, want %v", len(s), got, want)
		}
	}
}

func TestLongTexts(t *testing.T) {
	for _, piece := range []string{"a ", "1\n", ";", `'\''`, "/**/", `'\x00'`, "x=1;", "f$g "} {
		many := strings.Repeat(piece, api.MaxText/len(piece))
		most := strings.Repeat(" ", api.MaxText-len(many)) + many
		tokensOf(t, most)
		for _, more := range []string{" ", ";", "?", "\x00", most} {
			wantWrong(t, most+more, api.ErrLong, 0)
		}
	}
	if got := len(tokensOf(t, strings.Repeat(";", api.MaxText))); got != api.MaxTokens+1 {
		t.Fatalf("%d tokens", got)
	}
	wantWrong(t, strings.Repeat(" ", api.MaxText+1), api.ErrLong, 0)
	// ErrLong of the text stands ahead of all else, wherever that is.
	wantWrong(t, "?"+strings.Repeat(" ", api.MaxText), api.ErrLong, 0)
	wantWrong(t, "/*"+strings.Repeat("\x00", api.MaxText), api.ErrLong, 0)
	wantWrong(t, "?"+strings.Repeat(" ", api.MaxText-1), api.ErrByte, 0)
	wantWrong(t, strings.Repeat("\n", api.MaxText-1)+"?", api.ErrByte, api.MaxText-1)
}

func TestNames(t *testing.T) {
	for _, s := range []string{"a", "z", "x1", "a_", "a__9", "x_1y", "intx", "int_", "int1", "integer", "begin", "procedure", "read", "write", "x"} {
		wantTokens(t, s, nameTok(s))
	}
	wantTokens(t, "a b", nameTok("a"), nameTok("b"))
	wantTokens(t, "1a", intTok(1), nameTok("a"))
	wantTokens(t, "a.b", nameTok("a"), signTok("."), nameTok("b"))
	wantWrong(t, "_a", api.ErrByte, 0)
	wantWrong(t, "1_", api.ErrByte, 1)
	wantWrong(t, "caf\u00e9", api.ErrByte, 3)
}

func TestNamesOfParts(t *testing.T) {
	for _, s := range []string{"f$g", "a$b$c", "a1$b_2$c__", "a_$b", "a$a$a", "f$int", "int$f", "int$int", "main$main", "put$x1", strings.Repeat("a$", 1000) + "a"} {
		wantTokens(t, s, nameTok(s))
		wantTokens(t, s+"("+s+")", nameTok(s), signTok("("), nameTok(s), signTok(")"))
	}
	for s, at := range map[string]int{
		"$": 0, "$a": 0, "$$": 0, "a$": 1, "a$ b": 1, "a $b": 2, "a $ b": 2, "a$$b": 1, "a$1": 1, "a$_": 1, "a$_b": 1, "a$B": 1, "a$\nb": 1, "a$/**/b": 1, "a$'b'": 1, "a$\u00e9": 1,
		"a$b$": 3, "a$b$$c": 3, "a$b$1": 3, "ab_1$cd_2$E": 9, "int$": 3, "int$1": 3, "1$a": 1, "'a'$a": 3, ")$a": 1,
		strings.Repeat("a$", 1000): 1999,
	} {
		wantWrong(t, s, api.ErrByte, at)
		wantWrong(t, "x\n"+s, api.ErrByte, 2+at)
	}
}

func TestWords(t *testing.T) {
	for _, word := range words.All(api.Cee) {
		wantTokens(t, word, wordTok(word))
		wantTokens(t, word+"_", nameTok(word+"_"))
		wantTokens(t, "x"+word, nameTok("x"+word))
		wantTokens(t, word+"$"+word, nameTok(word+"$"+word))
		wantTokens(t, word+" "+word, wordTok(word), wordTok(word))
	}
	for _, word := range words.All(api.Pas) {
		if !words.Is(api.Cee, word) {
			wantTokens(t, word, nameTok(word))
		}
	}
}

func TestGreatLettersBeginNothing(t *testing.T) {
	for b := 'A'; b <= 'Z'; b++ {
		great := string(b)
		wantWrongAnywhere(t, great, api.ErrByte)
		wantWrongAnywhere(t, great+"a", api.ErrByte)
		wantWrong(t, "a"+great, api.ErrByte, 1)
		wantWrong(t, "int"+great, api.ErrByte, 3)
		wantWrong(t, "1"+great, api.ErrByte, 1)
		wantTokens(t, "'"+great+"'/*"+great+"*/", charTok(int64(b)), noteTok(great))
	}
	wantWrong(t, "INT", api.ErrByte, 0)
}

func TestLongNames(t *testing.T) {
	for _, behind := range []string{"a", "0", "_"} {
		of := func(length int) string { return "q" + strings.Repeat(behind, length-1) }
		most, over := of(api.MaxName), of(api.MaxName+1)
		for _, s := range []string{of(api.MaxName - 1), most, most + "$f", "f$" + most, most + "$" + most, most + "$" + most + "$" + most, "f$" + most + "$g"} {
			wantTokens(t, s, nameTok(s))
		}
		for _, s := range []string{over, of(1000), over + "$f", "f$" + over, "f$" + over + "$g", "f$g$" + over, most + "$" + over, over + "$" + most, over + "$" + over, strings.Repeat(most+"$", 100) + over} {
			wantWrongAnywhere(t, s, api.ErrLong)
		}
		wantWrong(t, of(api.MaxText), api.ErrLong, 0)
		// The $ that isn't the name's is told only if the name is one.
		wantWrong(t, most+"$", api.ErrByte, len(most))
		wantWrong(t, over+"$", api.ErrLong, 0)
		wantWrong(t, over+"$1", api.ErrLong, 0)
		wantWrong(t, most+"$1"+over, api.ErrByte, len(most))
		// It is told of the first one that is wrong.
		wantWrong(t, "a "+over+" ?", api.ErrLong, 2)
		wantWrong(t, "a ? "+over, api.ErrByte, 2)
		wantWrong(t, most+" "+over, api.ErrLong, len(most)+1)
	}
	long := strings.Repeat("while", 7)
	wantTokens(t, long[:api.MaxName], nameTok(long[:api.MaxName]))
	wantWrongAnywhere(t, long[:api.MaxName+1], api.ErrLong)
	many := strings.Repeat("a$", api.MaxText/2-1) + "ab"
	wantTokens(t, many, nameTok(many))
}

func TestNumbers(t *testing.T) {
	for s, n := range map[string]int64{
		"0": 0, "7": 7, "10": 10, "007": 7, "000": 0, "255": 255, "256": 256,
		"4294967296":                    1 << 32,
		"9223372036854775806":           math.MaxInt64 - 1,
		"9223372036854775807":           math.MaxInt64,
		"000009223372036854775807":      math.MaxInt64,
		strings.Repeat("0", 5000):       0,
		strings.Repeat("0", 5000) + "9": 9,
	} {
		wantTokens(t, s, intTok(n))
		wantTokens(t, s+"x1f", intTok(n), nameTok("x1f"))
		wantTokens(t, "-"+s, signTok("-"), intTok(n))
	}
	for _, s := range []string{
		"9223372036854775808", "9223372036854775810", "18446744073709551615", "18446744073709551616", "18446744073709551617",
		"0009223372036854775808", "92233720368547758070", strings.Repeat("9", 5000),
	} {
		wantWrongAnywhere(t, s, api.ErrNumber)
	}
	wantTokens(t, "1 2", intTok(1), intTok(2))
	wantTokens(t, "1.5", intTok(1), signTok("."), intTok(5))
	// Its minus stands by itself, so the least number isn't one token.
	wantWrong(t, "-9223372036854775808", api.ErrNumber, 1)
}

func TestQuotedChars(t *testing.T) {
	for n := range 256 {
		s := string([]byte{'\'', byte(n), '\''})
		if n < 0x20 || n > 0x7e || n == '\'' || n == '\\' {
			wantWrongAnywhere(t, s, api.ErrQuote)
			continue
		}
		wantTokens(t, s, charTok(int64(n)))
		wantTokens(t, s+s, charTok(int64(n)), charTok(int64(n)))
	}
	wantTokens(t, `'\''`, charTok('\''))
	wantTokens(t, `'\\'`, charTok('\\'))
	wantTokens(t, `'\'''\\'`, charTok('\''), charTok('\\'))
	wantTokens(t, `'\\''\''`, charTok('\\'), charTok('\''))
	wantTokens(t, `'{''}'`, charTok('{'), charTok('}'))
	wantTokens(t, `'/''*'`, charTok('/'), charTok('*'))
	wantTokens(t, `'a''b'`, charTok('a'), charTok('b'))
	wantTokens(t, `'x'`, charTok('x'))
	wantTokens(t, `'#'`, charTok('#'))
	wantTokens(t, `' '`, charTok(' '))
	wantTokens(t, `'A'`, charTok('A'))
}

func TestNearlyQuotedChars(t *testing.T) {
	for _, s := range []string{
		`'`, `''`, `'''`, `''''`, `'''a'`, `'a`, `'ab'`, "'a\n'", `'a '`, `' a'`, "'\n'", "'\t'", "'\x00", "'\x7f'", `''a'`, "'\u00e9'", "'\xff'",
		`'\`, `'\'`, `'\' '`, `'\'a'`, `'\'\'`, `'\\`, `'\\\'`, `'\\ '`, `'\\a`, `'\ '`, `'\n'`, `'\t'`, `'\0'`, `'\"'`, `'\a'`, `'\` + "\n'", `'/**/'`,
	} {
		wantWrongAnywhere(t, s, api.ErrQuote)
	}
	wantWrong(t, `'a'b'`, api.ErrQuote, 4)
	wantWrong(t, `'\'''`, api.ErrQuote, 4)
	wantWrong(t, `'\\''`, api.ErrQuote, 4)
	wantWrong(t, `'\\'a'`, api.ErrQuote, 5)
}

func TestNumberedChars(t *testing.T) {
	const digits = "0123456789abcdef"
	for n := range 256 {
		s := `'\x` + digits[n/16:n/16+1] + digits[n%16:n%16+1] + `'`
		wantTokens(t, s, charTok(int64(n)))
		wantTokens(t, s+s+"x", charTok(int64(n)), charTok(int64(n)), nameTok("x"))
		wantWrongAnywhere(t, s[:len(s)-1], api.ErrQuote)
		if great := strings.ToUpper(s[3:]); great != s[3:] {
			wantWrongAnywhere(t, s[:3]+great, api.ErrQuote)
		}
	}
}

func TestNearlyNumberedChars(t *testing.T) {
	for _, s := range []string{
		`'\x`, `'\x'`, `'\x4`, `'\x4'`, `'\x41`, `'\x411'`, `'\x041'`, `'\x0041'`, `'\x41 '`, `'\x 41'`, `'\x4 1'`, "'\\x41\n'", `'\x41x'`,
		`'\x4G'`, `'\x4g'`, `'\xg4'`, `'\xgg'`, `'\x4A'`, `'\xA4'`, `'\xAA'`, `'\xFF'`, `'\xfF'`, `'\xFf'`, `'\X41'`, `'\X'`,
		`'\x-1'`, `'\x+1'`, `'\x1_'`, `'\x_1'`, `'\x0x'`, `'\x\''`, `'\x''`, `'x41'`, `'\x4` + "\xff'", `'\x` + strings.Repeat("0", 5000) + `'`,
	} {
		wantWrongAnywhere(t, s, api.ErrQuote)
	}
	wantWrong(t, `'\x41''`, api.ErrQuote, 6)
	for _, s := range []string{"#", "#1", "#65", "#x41", "#'a'", "##"} {
		wantWrongAnywhere(t, s, api.ErrByte)
	}
}

func TestSigns(t *testing.T) {
	signs := strings.Fields(ceeSigns)
	for _, a := range signs {
		wantTokens(t, a, signTok(a))
		wantTokens(t, "x"+a+"1", nameTok("x"), signTok(a), intTok(1))
		for _, b := range signs {
			wantTokens(t, a+" "+b, signTok(a), signTok(b))
			if !slices.Contains(signs, a+b[:1]) && a+b != "/*" {
				wantTokens(t, a+b, signTok(a), signTok(b))
			}
		}
	}
	for s, want := range map[string]string{
		"===": "== =", "====": "== ==", "=!=": "= !=", "!==": "!= =", "!!=": "! !=", "<==": "<= =", "<=>": "<= >", "<>": "< >", "><": "> <", "=<": "= <", "=>": "= >", ">>=": "> >=", "<<=": "< <=",
		"&&&": "&& &", "&&&&": "&& &&", "|||": "|| |", "&|": "& |", "|&": "| &", "|=": "| =", "& &": "& &", "=\n=": "= =", "| |": "| |", "!\t=": "! =",
		"++": "+ +", "--": "- -", "->": "- >", "+=": "+ =", "-=": "- =", "*=": "* =", "/=": "/ =", "%=": "% =", "//": "/ /", "*/": "* /", "**/": "* * /", "/ *": "/ *", "/\n*": "/ *", "*/ *": "* / *", "{}": "{ }", "{*}": "{ * }",
	} {
		var tokens []api.Tok
		for _, sign := range strings.Fields(want) {
			tokens = append(tokens, signTok(sign))
		}
		wantTokens(t, s, tokens...)
	}
}

func TestBytesWithWhichNothingBegins(t *testing.T) {
	begins := someBlanks + smallLetters + "0123456789" + strings.ReplaceAll(ceeSigns, " ", "")
	for n := range 256 {
		b := string([]byte{byte(n)})
		switch {
		case b == "'":
			wantWrongAnywhere(t, b, api.ErrQuote)
		case strings.Contains(begins, b):
			tokensOf(t, b)
		default:
			wantWrongAnywhere(t, b, api.ErrByte)
			wantWrongAnywhere(t, b+b, api.ErrByte)
			wantWrongAnywhere(t, b+"a/*", api.ErrByte)
		}
	}
	for _, s := range []string{":", ":=", "?", "#10", "\"a\"", "_", "\\", "^", "@", "~", "`", "$", "A", "\v", "\f", "\x00", "\x7f", "\u00a0", "\ufeff"} {
		wantWrongAnywhere(t, s, api.ErrByte)
	}
}

func TestComments(t *testing.T) {
	for _, said := range []string{
		"", "a", " a ", "}", "\\", "{", "*", "/", "**", "*/", "/*", "/**/", "//", "\\*", "\\*/", "'", "#", "int", "INT", "a\nb", "\n\n", "\t",
		strings.Repeat("x", api.MaxNote), strings.Repeat("*", api.MaxNote), strings.Repeat("*/", api.MaxNote/2), strings.Repeat("\n", api.MaxNote),
	} {
		form, e := note.Print(api.Cee, said)
		if e != api.OK {
			t.Fatalf("Print(%q): %d", said, e)
		}
		wantTokens(t, form, noteTok(said))
		wantTokens(t, form+form, noteTok(said), noteTok(said))
		wantTokens(t, "a"+form+"b", nameTok("a"), noteTok(said), nameTok("b"))
		wantTokens(t, "&"+form+"&", signTok("&"), noteTok(said), signTok("&"))
		wantTokens(t, "/"+form+"*", signTok("/"), noteTok(said), signTok("*"))
	}
	wantTokens(t, `/*\**/`, noteTok("*"))
	wantTokens(t, "/*/*/", noteTok("/"))
	wantTokens(t, "/***/", noteTok("*"))
	wantTokens(t, "/**/*/", noteTok(""), signTok("*"), signTok("/"))
	wantTokens(t, "*/**/", signTok("*"), noteTok(""))
	wantTokens(t, "{n}", signTok("{"), nameTok("n"), signTok("}"))
}

func TestCommentsThatAreNone(t *testing.T) {
	for _, s := range []string{
		"/*", "/*/", "/**", "/*a", "/*a*", "/*a* /", "/*a\\", "/*a\\*/", "/*\\a*/", "/*\\}*/", "/*\\/*/", "/*\\\n*/", "/*\r\n*/", "/*\x00*/", "/*\x7f*/", "/*\u00e9*/", "/*\xff*/", "/*a\n\nb", "/*{}",
		"/*" + strings.Repeat("x", api.MaxNote),
	} {
		wantWrongAnywhere(t, s, api.ErrNote)
	}
	for _, s := range []string{
		"/*" + strings.Repeat("x", api.MaxNote+1) + "*/",
		"/*" + strings.Repeat("x", api.MaxNote+1),
		"/*" + strings.Repeat("\n", api.MaxNote+1) + "*/",
		"/*" + strings.Repeat("\\*", api.MaxNote+1) + "*/",
		"/*" + strings.Repeat("x", 10*api.MaxNote) + "\x00*/",
	} {
		wantWrongAnywhere(t, s, api.ErrLong)
	}
	wantWrong(t, "/*a*//*", api.ErrNote, 5)
	wantWrong(t, "//*", api.ErrNote, 1)
	wantWrong(t, "/*\x00"+strings.Repeat("x", 2*api.MaxNote)+"*/", api.ErrNote, 0)
}

func TestSame(t *testing.T) {
	for _, c := range []struct {
		s    string
		same string // a + for each token that is Same, - for another one
	}{
		{"", "-"}, {" ", "-"}, {"\n", "-"},
		{"a", "-+"}, {"a ", "-+"}, {"a\n", "--"}, {"\na", "-+"}, {"\na\n", "--"},
		{"a b", "-++"}, {"a\nb", "--+"}, {"a\rb", "-++"}, {"a\r\nb", "--+"}, {"a \n \n b c", "--++"},
		{"a/*n*/b", "-+++"}, {"a/*n*/\nb", "-+-+"}, {"a\n/*n*/b", "--++"}, {"a\n/*n*/\nb", "---+"},
		// A comment ends in another line than it begins.
		{"a/*\n*/b", "-+++"}, {"/*\n\n*/b", "-++"}, {"a\n/*\n*/b", "--++"}, {"a/*\n*/\nb", "-+-+"}, {"/*\n*//*\n*/", "-++"}, {"/*\n*/\n/*\n*/\n", "---"},
		{"/*\n*/", "-+"}, {"/*\n*/\n", "--"},
		{"'a''\\x0a'\n'\\\\'", "-+-+"}, {";\n;;", "--++"}, {"1\n1 1", "--++"}, {"f$g\nf$g f", "--++"}, {"'\\x0a'a", "-++"},
	} {
		got := ""
		for _, tok := range tokensOf(t, c.s) {
			if tok.Same {
				got += "+"
			} else {
				got += "-"
			}
		}
		if got != c.same {
			t.Fatalf("%q: %s, want %s", c.s, got, c.same)
		}
	}
}

func TestPlaces(t *testing.T) {
	s := "\r\n a$b\t&&\n\n/*x\ny*/'b' /*c*/\r'\\x0a'"
	var got []api.Pos
	for _, tok := range tokensOf(t, s) {
		got = append(got, tok.Pos)
	}
	want := []api.Pos{{At: 3, Line: 1, Col: 1}, {At: 7, Line: 1, Col: 5}, {At: 11, Line: 3, Col: 0}, {At: 18, Line: 4, Col: 3}, {At: 22, Line: 4, Col: 7}, {At: 28, Line: 4, Col: 13}, {At: 34, Line: 4, Col: 19}}
	if !slices.Equal(got, want) {
		t.Fatalf("%v, want %v", got, want)
	}
}

// pieces are tokens as they may be written.
var pieces = []struct {
	s    string
	want api.Tok
}{
	{"x", nameTok("x")}, {"int", wordTok("int")}, {"a_9", nameTok("a_9")}, {"f$g", nameTok("f$g")}, {"12", intTok(12)}, {"'q'", charTok('q')}, {`'\''`, charTok('\'')}, {"' '", charTok(' ')}, {`'\x0a'`, charTok(10)},
	{"&&", signTok("&&")}, {"&", signTok("&")}, {"<", signTok("<")}, {"!", signTok("!")}, {"=", signTok("=")}, {"/", signTok("/")}, {"*", signTok("*")}, {"{", signTok("{")},
	{"/*n*/", noteTok("n")}, {"/*a\n\\*/*/", noteTok("a\n*/")},
}

func TestBlanksBetweenTokensChangeNothing(t *testing.T) {
	gaps := []string{" ", "\t", "\n", "\r", "\r\n", "  ", " \n\t", "\n\n\n", strings.Repeat(" ", 300)}
	for _, a := range pieces {
		for _, b := range pieces {
			for _, c := range pieces {
				for i, gap := range gaps {
					other := gaps[(i+3)%len(gaps)]
					wantTokens(t, a.s+gap+b.s+other+c.s, a.want, b.want, c.want)
					wantTokens(t, other+a.s+other+b.s+gap+c.s+gap, a.want, b.want, c.want)
				}
			}
		}
	}
}

// Where no blank is needed, one more changes nothing either.
func TestBlanksWhereNoneStood(t *testing.T) {
	s := `int x1=12<=a.b['\'',f$g]/*n*/;/*` + "\n" + `*/}'z''\x07'(*)!=3&&&x`
	all := tokensOf(t, s)
	for _, gap := range []string{" ", "\n", "\r\n\t "} {
		for _, tok := range all {
			at := tok.Pos.At
			if got := tokensOf(t, s[:at]+gap+s[at:]); !slices.Equal(bare(got), bare(all)) {
				t.Fatalf("a blank at %d: %v, want %v", at, got, all)
			}
		}
	}
}

// modelForms says the chapter's rules anew, each form the longest that fits; the kind is that of its group. A * is a comment's own if no / stands behind it: so a row of * that a / follows is closed by its last one.
var modelForms = regexp.MustCompile(`\A(?:/\*((?:[\t\n -)+-\[\]-~]|\\\\|\\\*|\*+(?:[\t\n -)+-.0-\[\]-~]|\\\\|\\\*))*\**)\*/|([a-z][a-z0-9_]*(?:\$[a-z][a-z0-9_]*)*)|([0-9]+)|'([ -&(-\[\]-~])'|'\\(['\\])'|'\\x([0-9a-f]{2})'|(&&|\|\||[=!<>]=|[=<>+\-*/%&|!()\[\]{};,.]))`)

// model tells the tokens of a short text (no name, number or comment is too long there).
func model(s string) ([]api.Tok, api.Diag) {
	var all []api.Tok
	at, ended := 0, -1
	for {
		for at < len(s) && strings.IndexByte(someBlanks, s[at]) >= 0 {
			at++
		}
		place := api.Pos{At: at, Line: strings.Count(s[:at], "\n"), Col: at - strings.LastIndex(s[:at], "\n") - 1}
		same := ended >= 0 && !strings.Contains(s[ended:at], "\n")
		if at == len(s) {
			return append(all, api.Tok{Pos: place, Same: same}), api.Diag{}
		}
		m := modelForms.FindStringSubmatchIndex(s[at:])
		if code := modelCode(s[at:], m); code != api.OK {
			return nil, api.Diag{Code: code, Pos: place}
		}
		tok := modelTok(s[at:], m)
		tok.Pos, tok.Same = place, same
		all = append(all, tok)
		at += m[1]
		ended = at
	}
}

// modelCode: what begins as a comment is none else.
func modelCode(s string, m []int) api.Errno {
	switch {
	case strings.HasPrefix(s, "/*") && (m == nil || m[2] < 0):
		return api.ErrNote
	case m != nil:
		return api.OK
	case s[0] == '\'':
		return api.ErrQuote
	}
	return api.ErrByte
}

func modelTok(s string, m []int) api.Tok {
	of := 1
	for m[2*of] < 0 {
		of++
	}
	group := s[m[2*of]:m[2*of+1]]
	switch of {
	case 1:
		return noteTok(strings.NewReplacer(`\\`, `\`, `\*`, `*`).Replace(group))
	case 2:
		if words.Is(api.Cee, group) {
			return wordTok(group)
		}
		return nameTok(group)
	case 3:
		n, _ := strconv.ParseInt(group, 10, 64)
		return intTok(n)
	case 4, 5:
		return charTok(int64(group[0]))
	case 6:
		n, _ := strconv.ParseInt(group, 16, 64)
		return charTok(n)
	}
	return signTok(group)
}

func holdAgainstModel(t *testing.T, s string) {
	t.Helper()
	got, d := All(s)
	want, wrong := model(s)
	if !slices.Equal(got, want) || d != wrong {
		t.Fatalf("All(%q) = %v, %v, want %v, %v", s, got, d, want, wrong)
	}
}

func TestAllShortTexts(t *testing.T) {
	const bytes = "ifB_2$'\\x/*&=!{\n \r?\xc3"
	texts := []string{""}
	for range 4 {
		var longer []string
		for _, s := range texts {
			for i := range len(bytes) {
				longer = append(longer, s+bytes[i:i+1])
			}
		}
		for _, s := range longer {
			holdAgainstModel(t, s)
		}
		texts = longer
	}
}

// Rows of pieces without a blank between: what stands together is read by the longest that fits.
func TestRowsOfPieces(t *testing.T) {
	some := []string{"x", "if", "B", "2", "4f", "$", "$a", "'", "'a'", `'\`, `'\x`, `\`, "=", "&", "|", "!", "<", "/", "*", "/*", "*/", "{", "\n", " ", "#"}
	for _, a := range some {
		for _, b := range some {
			for _, c := range some {
				for _, d := range some {
					holdAgainstModel(t, a+b+c+d)
					holdAgainstModel(t, a+b+c+d+"'")
					holdAgainstModel(t, "/*"+a+b+c+d+"*/")
				}
			}
		}
	}
}

func TestAnswersAreTheirOwn(t *testing.T) {
	const s = `f$g('\x0a')/*c*/;`
	first := tokensOf(t, s)
	want := slices.Clone(first)
	for i := range first {
		first[i] = intTok(9)
	}
	_ = append(first[:0], intTok(8))
	if got := tokensOf(t, s); !slices.Equal(got, want) {
		t.Fatalf("%v, want %v", got, want)
	}
}
