package lexpas

import (
	"math"
	"regexp"
	"slices"
	"strconv"
	"strings"
	"testing"

	"pantograph/api"
	"pantograph/note"
	"pantograph/text"
	"pantograph/words"
)

const someBlanks = "\t\n\r "

// The signs as the chapter writes them.
const pasSigns = ":= <> <= >= = < > + - * ( ) [ ] ; : , ."

func nameTok(s string) api.Tok { return api.Tok{Kind: api.TokName, Text: s} }
func wordTok(s string) api.Tok { return api.Tok{Kind: api.TokWord, Text: s} }
func signTok(s string) api.Tok { return api.Tok{Kind: api.TokSign, Text: s} }
func noteTok(s string) api.Tok { return api.Tok{Kind: api.TokNote, Text: s} }
func intTok(n int64) api.Tok   { return api.Tok{Kind: api.TokInt, N: n} }
func charTok(n int64) api.Tok  { return api.Tok{Kind: api.TokChar, N: n} }

func tokensOf(t *testing.T, s string) []api.Tok {
	t.Helper()
	got, d := All(s)
	if d != (api.Diag{}) {
		t.Fatalf("All(%q): %v", s, d)
	}
	if len(got) == 0 || got[len(got)-1].Kind != api.TokEnd {
		t.Fatalf("All(%q) = %v: no end", s, got)
	}
	return got
}

// bare is what P5.2 says that blanks don't change.
func bare(all []api.Tok) []api.Tok {
	out := slices.Clone(all)
	for i := range out {
		out[i].Pos = api.Pos{}
		out[i].Same = false
	}
	return out
}

// wantTokens holds all but the places and Same against want, behind which the end stands.
func wantTokens(t *testing.T, s string, want ...api.Tok) {
	t.Helper()
	if got := bare(tokensOf(t, s)); !slices.Equal(got, append(slices.Clone(want), api.Tok{})) {
		t.Fatalf("All(%q) = %v, want %v and an end", s, got, want)
	}
}

func wantWrong(t *testing.T, s string, e api.Errno, at int) {
	t.Helper()
	got, d := All(s)
	if want := (api.Diag{Code: e, Pos: text.At(s, at)}); len(got) != 0 || d != want {
		t.Fatalf("All(%q) = %v, %v, want %v alone", s, got, d, want)
	}
}

// wantWrongAnywhere sets s, that is wrong from its beginning on, behind what is right, in the first line and in others.
func wantWrongAnywhere(t *testing.T, s string, e api.Errno) {
	t.Helper()
	for _, ahead := range []string{"", " ", "\n", "x:=1 ", "{\n\n}", "begin\r\n  x := 'a';\n\t", "x\n"} {
		wantWrong(t, ahead+s, e, len(ahead))
	}
}

func TestChaptersExample(t *testing.T) {
	want := []api.Tok{
		{Kind: api.TokName, Text: "x"},
		{Kind: api.TokSign, Text: ":=", Same: true, Pos: api.Pos{At: 1, Col: 1}},
		{Kind: api.TokChar, N: 97, Same: true, Pos: api.Pos{At: 3, Col: 3}},
		{Kind: api.TokNote, Text: "c", Same: true, Pos: api.Pos{At: 6, Col: 6}},
		{Kind: api.TokEnd, Same: true, Pos: api.Pos{At: 9, Col: 9}},
	}
	if got := tokensOf(t, "X:='a'{c}"); !slices.Equal(got, want) {
		t.Fatalf("%v, want %v", got, want)
	}
}

func TestProgram(t *testing.T) {
	s := "program p; { says }\nVAR a: array [3] of Integer;\r\nbegin\n\ta[0] := -12 div 5\nend.\n"
	want := []api.Tok{
		wordTok("program"), nameTok("p"), signTok(";"), noteTok(" says "),
		wordTok("var"), nameTok("a"), signTok(":"), wordTok("array"), signTok("["), intTok(3), signTok("]"), wordTok("of"), wordTok("integer"), signTok(";"),
		wordTok("begin"),
		nameTok("a"), signTok("["), intTok(0), signTok("]"), signTok(":="), signTok("-"), intTok(12), wordTok("div"), intTok(5),
		wordTok("end"), signTok("."),
	}
	wantTokens(t, s, want...)
	notSame := []int{0, 4, 14, 15, 24, 26}
	for i, tok := range tokensOf(t, s) {
		if tok.Same == slices.Contains(notSame, i) {
			t.Fatalf("token %d: %v", i, tok)
		}
		if tok.Pos != text.At(s, tok.Pos.At) {
			t.Fatalf("token %d: %v", i, tok)
		}
	}
}

func TestNoTokens(t *testing.T) {
	for _, s := range []string{"", " ", "\t", "\n", "\r", "\r\n", " \t\r\n \n\t ", strings.Repeat(" ", api.MaxText), strings.Repeat("\n", api.MaxText)} {
		want := []api.Tok{{Kind: api.TokEnd, Pos: text.At(s, len(s))}}
		if got := tokensOf(t, s); !slices.Equal(got, want) {
			t.Fatalf("%d bytes: %v, want %v", len(s), got, want)
		}
	}
}

func TestLongTexts(t *testing.T) {
	for _, piece := range []string{"a ", "1\n", ";", "''''", "{}", "#0 ", "x:=1;"} {
		long := strings.Repeat(piece, api.MaxText/len(piece)+1)
		tokensOf(t, strings.Repeat(" ", api.MaxText%len(piece))+long[:api.MaxText/len(piece)*len(piece)])
		for _, length := range []int{api.MaxText + 1, api.MaxText + 2, 2 * api.MaxText} {
			s := strings.Repeat(piece, length/len(piece)+1)[:length]
			wantWrong(t, s, api.ErrLong, 0)
		}
	}
	if got := len(tokensOf(t, strings.Repeat(";", api.MaxText))); got != api.MaxTokens+1 {
		t.Fatalf("%d tokens", got)
	}
	wantWrong(t, strings.Repeat(" ", api.MaxText+1), api.ErrLong, 0)
	// ErrLong of the text stands ahead of all else, wherever that is.
	wantWrong(t, "?"+strings.Repeat(" ", api.MaxText), api.ErrLong, 0)
	wantWrong(t, "{"+strings.Repeat("\x00", api.MaxText), api.ErrLong, 0)
	wantWrong(t, "?"+strings.Repeat(" ", api.MaxText-1), api.ErrByte, 0)
	wantWrong(t, strings.Repeat("\n", api.MaxText-1)+"?", api.ErrByte, api.MaxText-1)
}

func TestNames(t *testing.T) {
	for _, s := range []string{"a", "z", "x1", "a_", "a__9", "x_1y", "beginx", "begin_", "begin1", "int", "get", "put", "main"} {
		wantTokens(t, s, nameTok(s))
		wantTokens(t, strings.ToUpper(s), nameTok(s))
	}
	wantTokens(t, "aBcXyZ_Q9", nameTok("abcxyz_q9"))
	wantTokens(t, "a b", nameTok("a"), nameTok("b"))
	wantTokens(t, "1a", intTok(1), nameTok("a"))
	wantTokens(t, "a.b", nameTok("a"), signTok("."), nameTok("b"))
	wantWrong(t, "_a", api.ErrByte, 0)
	wantWrong(t, "1_", api.ErrByte, 1)
	wantWrong(t, "f$g", api.ErrByte, 1)
	wantWrong(t, "caf\u00e9", api.ErrByte, 3)
}

func TestWords(t *testing.T) {
	for _, word := range words.All(api.Pas) {
		for _, s := range []string{word, strings.ToUpper(word), strings.ToUpper(word[:1]) + word[1:]} {
			wantTokens(t, s, wordTok(word))
		}
		wantTokens(t, word+"_", nameTok(word+"_"))
		wantTokens(t, "x"+word, nameTok("x"+word))
	}
	for _, word := range words.All(api.Cee) {
		if !words.Is(api.Pas, word) {
			wantTokens(t, word, nameTok(word))
		}
	}
}

func TestLongNames(t *testing.T) {
	for _, behind := range []string{"a", "Z", "0", "_"} {
		for _, first := range []string{"q", "Q"} {
			of := func(length int) string { return first + strings.Repeat(behind, length-1) }
			wantTokens(t, of(api.MaxName-1), nameTok(strings.ToLower(of(api.MaxName-1))))
			wantTokens(t, of(api.MaxName), nameTok(strings.ToLower(of(api.MaxName))))
			wantWrongAnywhere(t, of(api.MaxName+1), api.ErrLong)
			wantWrongAnywhere(t, of(1000), api.ErrLong)
			wantWrong(t, of(api.MaxText), api.ErrLong, 0)
		}
	}
	long := strings.Repeat("begin", 7)
	wantTokens(t, long[:api.MaxName], nameTok(long[:api.MaxName]))
	wantWrongAnywhere(t, long[:api.MaxName+1], api.ErrLong)
	// It is told of the first one that is wrong.
	wantWrong(t, "a "+long+" ?", api.ErrLong, 2)
	wantWrong(t, "a ? "+long, api.ErrByte, 2)
}

func TestNumbers(t *testing.T) {
	for s, n := range map[string]int64{
		"0": 0, "7": 7, "10": 10, "007": 7, "000": 0, "255": 255, "256": 256,
		"4294967296":                    1 << 32,
		"9223372036854775806":           math.MaxInt64 - 1,
		"9223372036854775807":           math.MaxInt64,
		"000009223372036854775807":      math.MaxInt64,
		strings.Repeat("0", 5000):       0,
		strings.Repeat("0", 5000) + "9": 9,
	} {
		wantTokens(t, s, intTok(n))
		wantTokens(t, s+"x", intTok(n), nameTok("x"))
		wantTokens(t, "-"+s, signTok("-"), intTok(n))
	}
	for _, s := range []string{
		"9223372036854775808", "9223372036854775810", "18446744073709551615", "18446744073709551616", "18446744073709551617",
		"0009223372036854775808", "92233720368547758070", strings.Repeat("9", 5000),
	} {
		wantWrongAnywhere(t, s, api.ErrNumber)
	}
	wantTokens(t, "1 2", intTok(1), intTok(2))
	wantTokens(t, "1.5", intTok(1), signTok("."), intTok(5))
	// Its minus stands by itself, so the least number isn't one token.
	wantWrong(t, "-9223372036854775808", api.ErrNumber, 1)
}

func TestQuotedChars(t *testing.T) {
	for n := range 256 {
		s := string([]byte{'\'', byte(n), '\''})
		if n < 0x20 || n > 0x7e || n == '\'' {
			wantWrongAnywhere(t, s, api.ErrQuote)
			continue
		}
		wantTokens(t, s, charTok(int64(n)))
		wantTokens(t, s+s, charTok(int64(n)), charTok(int64(n)))
	}
	wantTokens(t, "''''", charTok('\''))
	wantTokens(t, "''''''''", charTok('\''), charTok('\''))
	wantTokens(t, "'{''}'", charTok('{'), charTok('}'))
	wantTokens(t, "'a''b'", charTok('a'), charTok('b'))
	wantTokens(t, "' '", charTok(' '))
	wantTokens(t, "'\\'", charTok('\\'))
	wantTokens(t, "'A'", charTok('A'))
}

func TestNearlyQuotedChars(t *testing.T) {
	for _, s := range []string{"'", "''", "'''", "'''a", "''' '", "'a", "'ab'", "'a\n'", "'a '", "' a'", "'\n'", "'\t'", "'\x00", "''a'", "'\u00e9'", "'#10'"} {
		wantWrongAnywhere(t, s, api.ErrQuote)
	}
	wantWrong(t, "'''''", api.ErrQuote, 4)
	wantWrong(t, "''''a'", api.ErrQuote, 5)
	wantWrong(t, "'a'b'", api.ErrQuote, 4)
	// \ shields nothing here.
	wantWrong(t, "'\\''", api.ErrQuote, 3)
}

func TestNumberedChars(t *testing.T) {
	for n := range 1000 {
		for _, digits := range []string{strconv.Itoa(n), ("00" + strconv.Itoa(n))[len(strconv.Itoa(n))-1:]} {
			if n > 255 {
				wantWrong(t, "#"+digits, api.ErrQuote, 0)
				continue
			}
			wantTokens(t, "#"+digits, charTok(int64(n)))
			wantTokens(t, "#"+digits+"x #"+digits, charTok(int64(n)), nameTok("x"), charTok(int64(n)))
		}
	}
	wantTokens(t, "#10#13", charTok(10), charTok(13))
	wantTokens(t, "#1'a'", charTok(1), charTok('a'))
	wantTokens(t, "#25 5", charTok(25), intTok(5))
	wantTokens(t, "#255", charTok(255))
}

func TestNearlyNumberedChars(t *testing.T) {
	for _, s := range []string{
		"#", "##", "# 1", "#a", "#x41", "#-1", "#'1'", "#\n1", "#{}1", "#256", "#300", "#999",
		"#0000", "#0001", "#0255", "#1000", "#2550", "#9223372036854775808", "#" + strings.Repeat("0", 5000), "#" + strings.Repeat("9", 5000),
	} {
		wantWrongAnywhere(t, s, api.ErrQuote)
	}
	wantWrong(t, "#1#", api.ErrQuote, 2)
}

func TestSigns(t *testing.T) {
	signs := strings.Fields(pasSigns)
	for _, a := range signs {
		wantTokens(t, a, signTok(a))
		wantTokens(t, "x"+a+"1", nameTok("x"), signTok(a), intTok(1))
		for _, b := range signs {
			wantTokens(t, a+" "+b, signTok(a), signTok(b))
			if !slices.Contains(signs, a+b) && !slices.Contains(signs, a+b[:1]) {
				wantTokens(t, a+b, signTok(a), signTok(b))
			}
		}
	}
	wantTokens(t, ":=", signTok(":="))
	wantTokens(t, "::=", signTok(":"), signTok(":="))
	wantTokens(t, ":==", signTok(":="), signTok("="))
	wantTokens(t, "<=>", signTok("<="), signTok(">"))
	wantTokens(t, "<>=", signTok("<>"), signTok("="))
	wantTokens(t, "><", signTok(">"), signTok("<"))
	wantTokens(t, "=<", signTok("="), signTok("<"))
	wantTokens(t, "<<>>=", signTok("<"), signTok("<>"), signTok(">="))
	wantTokens(t, ": =", signTok(":"), signTok("="))
	wantTokens(t, "<\n>", signTok("<"), signTok(">"))
	wantTokens(t, "(*.*)", signTok("("), signTok("*"), signTok("."), signTok("*"), signTok(")"))
}

func TestBytesWithWhichNothingBegins(t *testing.T) {
	begins := someBlanks + "abcdefghijklmnopqrstuvwxyzABCDEFGHIJKLMNOPQRSTUVWXYZ0123456789'#{" + strings.ReplaceAll(pasSigns, " ", "")
	for n := range 256 {
		b := string([]byte{byte(n)})
		switch {
		case b == "{":
			wantWrongAnywhere(t, b, api.ErrNote)
		case b == "'" || b == "#":
			wantWrongAnywhere(t, b, api.ErrQuote)
		case strings.Contains(begins, b):
			tokensOf(t, b)
		default:
			wantWrongAnywhere(t, b, api.ErrByte)
			wantWrongAnywhere(t, b+b, api.ErrByte)
			wantWrongAnywhere(t, b+"a{", api.ErrByte)
		}
	}
	for _, s := range []string{"}", "/", "/**/", "%", "&&", "!", "\"a\"", "_", "\\", "^", "@", "~", "|", "\v", "\f", "\x00", "\x7f", "\u00a0", "\ufeff"} {
		wantWrongAnywhere(t, s, api.ErrByte)
	}
}

func TestComments(t *testing.T) {
	for _, said := range []string{"", "a", " a ", "}", "\\", "{", "a}b", "\\}", "{}", "'", "#", "begin", "*/", "//", "a\nb", "\n\n", "\t", strings.Repeat("x", api.MaxNote), strings.Repeat("}", api.MaxNote)} {
		form, e := note.Print(api.Pas, said)
		if e != api.OK {
			t.Fatalf("Print(%q): %d", said, e)
		}
		wantTokens(t, form, noteTok(said))
		wantTokens(t, form+form, noteTok(said), noteTok(said))
		wantTokens(t, "a"+form+"b", nameTok("a"), noteTok(said), nameTok("b"))
		wantTokens(t, ":"+form+"=", signTok(":"), noteTok(said), signTok("="))
	}
	wantTokens(t, "{{}", noteTok("{"))
	wantTokens(t, "{BEGIN}", noteTok("BEGIN"))
}

func TestCommentsThatAreNone(t *testing.T) {
	for _, s := range []string{
		"{", "{a", "{a\\", "{a\\}", "{\\a}", "{\\\n}", "{\\", "{\r\n}", "{\x00}", "{\x7f}", "{\u00e9}", "{\xff}", "{a\n\nb",
		"{" + strings.Repeat("x", api.MaxNote),
	} {
		wantWrongAnywhere(t, s, api.ErrNote)
	}
	for _, s := range []string{
		"{" + strings.Repeat("x", api.MaxNote+1) + "}",
		"{" + strings.Repeat("x", api.MaxNote+1),
		"{" + strings.Repeat("\n", api.MaxNote+1) + "}",
		"{" + strings.Repeat("\\}", api.MaxNote+1) + "}",
		"{" + strings.Repeat("x", 10*api.MaxNote) + "\x00}",
	} {
		wantWrongAnywhere(t, s, api.ErrLong)
	}
	wantWrong(t, "{a}}", api.ErrByte, 3)
	wantWrong(t, "{a}{", api.ErrNote, 3)
	wantWrong(t, "{\x00"+strings.Repeat("x", 2*api.MaxNote)+"}", api.ErrNote, 0)
}

func TestSame(t *testing.T) {
	for _, c := range []struct {
		s    string
		same string // a + for each token that is Same, - for another one
	}{
		{"", "-"}, {" ", "-"}, {"\n", "-"},
		{"a", "-+"}, {"a ", "-+"}, {"a\n", "--"}, {"\na", "-+"}, {"\na\n", "--"},
		{"a b", "-++"}, {"a\nb", "--+"}, {"a\rb", "-++"}, {"a\r\nb", "--+"}, {"a \n \n b c", "--++"},
		{"a{n}b", "-+++"}, {"a{n}\nb", "-+-+"}, {"a\n{n}b", "--++"}, {"a\n{n}\nb", "---+"},
		// A comment ends in another line than it begins.
		{"a{\n}b", "-+++"}, {"{\n\n}b", "-++"}, {"a\n{\n}b", "--++"}, {"a{\n}\nb", "-+-+"}, {"{\n}{\n}", "-++"}, {"{\n}\n{\n}\n", "---"},
		{"{\n}", "-+"}, {"{\n}\n", "--"},
		{"'a'#10\n''''", "-+-+"}, {";\n;;", "--++"}, {"1\n1 1", "--++"},
	} {
		got := ""
		for _, tok := range tokensOf(t, c.s) {
			if tok.Same {
				got += "+"
			} else {
				got += "-"
			}
		}
		if got != c.same {
			t.Fatalf("%q: %s, want %s", c.s, got, c.same)
		}
	}
}

func TestPlaces(t *testing.T) {
	s := "\r\n a\t:=\n\n{x\ny}'b' {c}\r#1"
	var got []api.Pos
	for _, tok := range tokensOf(t, s) {
		got = append(got, tok.Pos)
	}
	want := []api.Pos{{At: 3, Line: 1, Col: 1}, {At: 5, Line: 1, Col: 3}, {At: 9, Line: 3, Col: 0}, {At: 14, Line: 4, Col: 2}, {At: 18, Line: 4, Col: 6}, {At: 22, Line: 4, Col: 10}, {At: 24, Line: 4, Col: 12}}
	if !slices.Equal(got, want) {
		t.Fatalf("%v, want %v", got, want)
	}
}

// pieces are tokens as they may be written.
var pieces = []struct {
	s    string
	want api.Tok
}{
	{"x", nameTok("x")}, {"Begin", wordTok("begin")}, {"a_9", nameTok("a_9")}, {"12", intTok(12)}, {"'q'", charTok('q')}, {"''''", charTok('\'')}, {"' '", charTok(' ')}, {"#10", charTok(10)},
	{":=", signTok(":=")}, {":", signTok(":")}, {"<", signTok("<")}, {">", signTok(">")}, {"=", signTok("=")}, {"(", signTok("(")}, {".", signTok(".")},
	{"{n}", noteTok("n")}, {"{a\n\\}}", noteTok("a\n}")},
}

func TestBlanksBetweenTokensChangeNothing(t *testing.T) {
	gaps := []string{" ", "\t", "\n", "\r", "\r\n", "  ", " \n\t", "\n\n\n", strings.Repeat(" ", 300)}
	for _, a := range pieces {
		for _, b := range pieces {
			for _, c := range pieces {
				for i, gap := range gaps {
					other := gaps[(i+3)%len(gaps)]
					wantTokens(t, a.s+gap+b.s+other+c.s, a.want, b.want, c.want)
					wantTokens(t, other+a.s+other+b.s+gap+c.s+gap, a.want, b.want, c.want)
				}
			}
		}
	}
}

// Where no blank is needed, one more changes nothing either.
func TestBlanksWhereNoneStood(t *testing.T) {
	s := "Begin x1:=12<=a.b['''',#10]{n};{\n}end.'z'#7(*)<>3"
	all := tokensOf(t, s)
	for _, gap := range []string{" ", "\n", "\r\n\t "} {
		for _, tok := range all {
			at := tok.Pos.At
			if got := tokensOf(t, s[:at]+gap+s[at:]); !slices.Equal(bare(got), bare(all)) {
				t.Fatalf("a blank at %d: %v, want %v", at, got, all)
			}
		}
	}
}

// modelForms says the chapter's table anew, each form the longest that fits; the kind is that of its group.
var modelForms = regexp.MustCompile(`\A(?:(?s:\{((?:[\t\n -\[\]-|~]|\\\\|\\\})*)\})|([A-Za-z][A-Za-z0-9_]*)|([0-9]+)|('[ -&(-~]'|'''')|#([0-9]+)|(:=|<>|<=|>=|[=<>+\-*()\[\];:,.]))`)

// model tells the tokens of a short text (no name, number or comment is too long there).
func model(s string) ([]api.Tok, api.Diag) {
	var all []api.Tok
	at, ended := 0, -1
	for {
		for at < len(s) && strings.IndexByte(someBlanks, s[at]) >= 0 {
			at++
		}
		place := api.Pos{At: at, Line: strings.Count(s[:at], "\n"), Col: at - strings.LastIndex(s[:at], "\n") - 1}
		same := ended >= 0 && !strings.Contains(s[ended:at], "\n")
		if at == len(s) {
			return append(all, api.Tok{Pos: place, Same: same}), api.Diag{}
		}
		m := modelForms.FindStringSubmatchIndex(s[at:])
		tok, ok := modelTok(s[at:], m)
		if !ok {
			code := api.ErrByte
			switch s[at] {
			case '{':
				code = api.ErrNote
			case '\'', '#':
				code = api.ErrQuote
			}
			return nil, api.Diag{Code: code, Pos: place}
		}
		tok.Pos, tok.Same = place, same
		all = append(all, tok)
		at += m[1]
		ended = at
	}
}

func modelTok(s string, m []int) (api.Tok, bool) {
	if m == nil {
		return api.Tok{}, false
	}
	group := func(i int) string { return s[m[2*i]:m[2*i+1]] }
	switch {
	case m[2] >= 0:
		return noteTok(strings.NewReplacer(`\\`, `\`, `\}`, `}`).Replace(group(1))), true
	case m[4] >= 0:
		name := strings.ToLower(group(2))
		if words.Is(api.Pas, name) {
			return wordTok(name), true
		}
		return nameTok(name), true
	case m[6] >= 0:
		n, err := strconv.ParseInt(group(3), 10, 64)
		return intTok(n), err == nil
	case m[8] >= 0:
		return charTok(int64(group(4)[1])), true
	case m[10] >= 0:
		n, err := strconv.Atoi(group(5))
		return charTok(int64(n)), err == nil && len(group(5)) <= 3 && n <= 255
	}
	return signTok(group(6)), true
}

func holdAgainstModel(t *testing.T, s string) {
	t.Helper()
	got, d := All(s)
	want, wrong := model(s)
	if !slices.Equal(got, want) || d != wrong {
		t.Fatalf("All(%q) = %v, %v, want %v, %v", s, got, d, want, wrong)
	}
}

func TestAllShortTexts(t *testing.T) {
	const bytes = "iF_29'#:=<>{}\\.\n \r?\xc3"
	texts := []string{""}
	for range 4 {
		var longer []string
		for _, s := range texts {
			for i := range len(bytes) {
				longer = append(longer, s+bytes[i:i+1])
			}
		}
		for _, s := range longer {
			holdAgainstModel(t, s)
		}
		texts = longer
	}
}

// Rows of pieces without a blank between: what stands together is read by the longest that fits.
func TestRowsOfPieces(t *testing.T) {
	some := []string{"x", "IF", "2", "55", "'", "''", "'a'", "#", "#2", ":", "=", "<", ">", "{", "}", "{n}", "\\", "\n", " ", "?"}
	for _, a := range some {
		for _, b := range some {
			for _, c := range some {
				for _, d := range some {
					holdAgainstModel(t, a+b+c+d)
					holdAgainstModel(t, a+b+"}"+c+d)
				}
			}
		}
	}
}

func TestAnswersAreTheirOwn(t *testing.T) {
	const s = "X:='a'{c}"
	first := tokensOf(t, s)
	want := slices.Clone(first)
	for i := range first {
		first[i] = intTok(9)
	}
	_ = append(first[:0], intTok(8))
	if got := tokensOf(t, s); !slices.Equal(got, want) {
		t.Fatalf("%v, want %v", got, want)
	}
}
