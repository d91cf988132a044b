package note

import (
	"math"
	"strings"
	"testing"

	"pantograph/api"
)

var dialects = []int{api.Pas, api.Cee}

var noDialects = []int{-1, 2, 3, math.MinInt, math.MaxInt}

func textByte(b byte) bool {
	return b == 0x09 || b == 0x0a || 0x20 <= b && b <= 0x7e
}

// shortTexts are all texts of up to most bytes, each one of those.
func shortTexts(most int, bytes string) []string {
	all := []string{""}
	from := 0
	for range most {
		upto := len(all)
		for _, s := range all[from:upto] {
			for i := range len(bytes) {
				all = append(all, s+bytes[i:i+1])
			}
		}
		from = upto
	}
	return all
}

// formOf says a form in the document's own words, by replacing.
func formOf(dialect int, s string) string {
	s = strings.ReplaceAll(s, `\`, `\\`)
	if dialect == api.Pas {
		return "{" + strings.ReplaceAll(s, "}", `\}`) + "}"
	}
	return "/*" + strings.ReplaceAll(s, "*/", `\*/`) + "*/"
}

// readOf says what Read answers in the document's own words, by places.
func readOf(dialect int, s string) (string, int, api.Errno) {
	opening, closing, behind := "{", "}", `\}`
	if dialect == api.Cee {
		opening, closing, behind = "/*", "*/", `\*`
	}
	if len(s) < len(opening) || s[:len(opening)] != opening {
		return "", 0, api.ErrNote
	}
	said := []byte{}
	for at := len(opening); at < len(s); at++ {
		if end := at + len(closing); end <= len(s) && s[at:end] == closing {
			return string(said), end, api.OK
		}
		if s[at] == '\\' {
			at++
			if at == len(s) || strings.IndexByte(behind, s[at]) < 0 {
				return "", 0, api.ErrNote
			}
		}
		if !textByte(s[at]) {
			return "", 0, api.ErrNote
		}
		said = append(said, s[at])
		if len(said) > 1024 {
			return "", 0, api.ErrLong
		}
	}
	return "", 0, api.ErrNote
}

func wantPrint(t *testing.T, dialect int, s, want string, wantE api.Errno) {
	t.Helper()
	if got, e := Print(dialect, s); got != want || e != wantE {
		t.Fatalf("Print(%d, %q): %q %d, want %q %d", dialect, s, got, e, want, wantE)
	}
}

func wantRead(t *testing.T, dialect int, s, want string, wantUsed int, wantE api.Errno) {
	t.Helper()
	if got, used, e := Read(dialect, s); got != want || used != wantUsed || e != wantE {
		t.Fatalf("Read(%d, %q): %q %d %d, want %q %d %d", dialect, s, got, used, e, want, wantUsed, wantE)
	}
}

func TestPrintGivesTheForm(t *testing.T) {
	for _, c := range []struct{ s, pas, cee string }{
		{"", "{}", "/**/"},
		{"a", "{a}", "/*a*/"},
		{" a\n\tb~", "{ a\n\tb~}", "/* a\n\tb~*/"},
		{"a}b", `{a\}b}`, "/*a}b*/"},
		{"{", "{{}", "/*{*/"},
		{"{}", `{{\}}`, "/*{}*/"},
		{"}}", `{\}\}}`, "/*}}*/"},
		{"*/", "{*/}", `/*\*/*/`},
		{"/*", "{/*}", "/*/**/"},
		{"*", "{*}", "/***/"},
		{"**", "{**}", "/****/"},
		{"/", "{/}", "/*/*/"},
		{"**/", "{**/}", `/**\*/*/`},
		{"*/*/", "{*/*/}", `/*\*/\*/*/`},
		{"* /", "{* /}", "/** /*/"},
		{`\`, `{\\}`, `/*\\*/`},
		{`\\`, `{\\\\}`, `/*\\\\*/`},
		{`*\/`, `{*\\/}`, `/**\\/*/`},
		{`\*/`, `{\\*/}`, `/*\\\*/*/`},
		{`\}`, `{\\\}}`, `/*\\}*/`},
		{`}\`, `{\}\\}`, `/*}\\*/`},
	} {
		wantPrint(t, api.Pas, c.s, c.pas, api.OK)
		wantPrint(t, api.Cee, c.s, c.cee, api.OK)
	}
}

func TestPrintOfAllShortTexts(t *testing.T) {
	for _, s := range shortTexts(6, `\}{*/a`) {
		for _, d := range dialects {
			wantPrint(t, d, s, formOf(d, s), api.OK)
		}
	}
}

func TestPrintOfEveryByte(t *testing.T) {
	for i := range 256 {
		b := byte(i)
		for _, s := range []string{string([]byte{b}), string([]byte{'a', b}), string([]byte{b, 'a'})} {
			for _, d := range dialects {
				if textByte(b) {
					wantPrint(t, d, s, formOf(d, s), api.OK)
				} else {
					wantPrint(t, d, s, "", api.ErrNote)
				}
			}
		}
	}
}

func TestPrintOfRunes(t *testing.T) {
	for _, s := range []string{"\u00e9", "a\u20acb", "\U0001f600", "\ufffd", "a\xe2\x82", "\xc0\xaa"} {
		for _, d := range dialects {
			wantPrint(t, d, s, "", api.ErrNote)
		}
	}
}

func TestPrintOfLongTexts(t *testing.T) {
	for _, b := range []string{"a", "}", `\`, "*", "/", "\n"} {
		most := strings.Repeat(b, 1024)
		for _, d := range dialects {
			wantPrint(t, d, most, formOf(d, most), api.OK)
			wantPrint(t, d, most+b, "", api.ErrLong)
		}
	}
	pairs := strings.Repeat("*/", 512)
	wantPrint(t, api.Cee, pairs, "/*"+strings.Repeat(`\*/`, 512)+"*/", api.OK)
}

func TestPrintTellsTheFirstError(t *testing.T) {
	long := strings.Repeat("a", 1025)
	for _, d := range noDialects {
		for _, s := range []string{"", "a", "\x01", long, "\x01" + long} {
			wantPrint(t, d, s, "", api.ErrArg)
		}
	}
	for _, d := range dialects {
		wantPrint(t, d, "\x01"+long, "", api.ErrLong)
		wantPrint(t, d, long+"\xff", "", api.ErrLong)
		wantPrint(t, d, long[:1023]+"\x7f", "", api.ErrNote)
	}
}

func TestBegins(t *testing.T) {
	for _, c := range []struct {
		s        string
		pas, cee bool
	}{
		{"", false, false},
		{"{", true, false},
		{"{}", true, false},
		{"{\x01", true, false},
		{"}", false, false},
		{" {", false, false},
		{"/", false, false},
		{"/*", false, true},
		{"/**/", false, true},
		{"/*\xff", false, true},
		{"*/", false, false},
		{"/ *", false, false},
		{"//", false, false},
		{"*", false, false},
		{" /*", false, false},
		{"{/*", true, false},
	} {
		if Begins(api.Pas, c.s) != c.pas || Begins(api.Cee, c.s) != c.cee {
			t.Fatalf("Begins of %q", c.s)
		}
		for _, d := range noDialects {
			if Begins(d, c.s) {
				t.Fatalf("Begins(%d, %q)", d, c.s)
			}
		}
	}
}

func wantPrint2(t *testing.T, want string, wantE api.Errno, dialect int, notes ...string) {
	t.Helper()
	if got, e := Print2(dialect, notes...); got != want || e != wantE {
		t.Fatalf("Print2(%d, %q): %q %d, want %q %d", dialect, notes, got, e, want, wantE)
	}
}

func TestPrint2(t *testing.T) {
	wantPrint2(t, "", api.OK, api.Pas)
	wantPrint2(t, "", api.OK, api.Cee, []string{}...)
	wantPrint2(t, "{}\n", api.OK, api.Pas, "")
	wantPrint2(t, "/*a*/\n", api.OK, api.Cee, "a")
	wantPrint2(t, "{a}\n{\\}}\n{b\n}\n{a}\n", api.OK, api.Pas, "a", "}", "b\n", "a")
	wantPrint2(t, "/*}*/\n/*\\*/*/\n/**/\n", api.OK, api.Cee, "}", "*/", "")
}

func TestPrint2TellsTheErrorOfTheFirst(t *testing.T) {
	long := strings.Repeat("a", 1025)
	for _, d := range dialects {
		wantPrint2(t, "", api.ErrNote, d, "\x01")
		wantPrint2(t, "", api.ErrLong, d, long)
		wantPrint2(t, "", api.ErrNote, d, "a", "\x01", long, "b")
		wantPrint2(t, "", api.ErrLong, d, "a", long, "\x01", "b")
		wantPrint2(t, "", api.ErrNote, d, "a", "b", "\x7f")
	}
	for _, d := range noDialects {
		wantPrint2(t, "", api.ErrArg, d, "a")
		wantPrint2(t, "", api.ErrArg, d, long, "\x01")
		// Without a comment there is none that has an error.
		wantPrint2(t, "", api.OK, d)
	}
}

func TestPrint2LeavesItsNotes(t *testing.T) {
	room := []string{"a", "}", "x"}
	if _, e := Print2(api.Pas, room[:2]...); e != api.OK {
		t.Fatal(e)
	}
	if room[0] != "a" || room[1] != "}" || room[2] != "x" {
		t.Fatal(room)
	}
}

func TestReadByExamples(t *testing.T) {
	for _, c := range []struct {
		s, text string
		used    int
	}{
		{"{}", "", 2},
		{"{a}", "a", 3},
		{"{a}b}", "a", 3},
		{`{a\}b}`, "a}b", 6},
		{`{\\}`, `\`, 4},
		{`{\\}}`, `\`, 4},
		{`{\\\}}`, `\}`, 6},
		{"{{}", "{", 3},
		{"{*/}", "*/", 4},
		{"{\t\n ~}\x01", "\t\n ~", 6},
	} {
		wantRead(t, api.Pas, c.s, c.text, c.used, api.OK)
	}
	for _, c := range []struct {
		s, text string
		used    int
	}{
		{"/**/", "", 4},
		{"/*a*/", "a", 5},
		{"/*a*/*/", "a", 5},
		{"/*/*/", "/", 5},
		{"/***/", "*", 5},
		{"/****/", "**", 6},
		{`/*\*/*/`, "*/", 7},
		{`/*\**/`, "*", 6},
		{`/*\*\*/*/`, "**/", 9},
		{`/*\\*/`, `\`, 6},
		{`/*\\\*/*/`, `\*/`, 9},
		{"/*}{*/", "}{", 6},
		{"/* * / */", " * / ", 9},
		{"/*\t\n ~*/\xff", "\t\n ~", 8},
	} {
		wantRead(t, api.Cee, c.s, c.text, c.used, api.OK)
	}
}

func TestReadRefuses(t *testing.T) {
	for _, s := range []string{"", "a", "}", " {}", "/**/", "{", "{a", "{\\", "{a\\", "{\\}", "{\\a}", "{\\{}", "{\\*}", "{\\\n}", "{\\\x01}", "{\\\xff}", "{\x01}", "{a\x7f}", "{\u00e9}"} {
		wantRead(t, api.Pas, s, "", 0, api.ErrNote)
	}
	for _, s := range []string{"", "a", "/", "*/", "{}", " /**/", "/ **/", "/*", "/*/", "/**", "/*a*", "/*a* /", "/*\\", "/*\\*/", "/*\\a*/", "/*\\/*/", "/*\\}*/", "/*\\\n*/", "/*\\\x01*/", "/*\\\xff*/", "/*\x01*/", "/*a\x7f*/", "/*\u00e9*/"} {
		wantRead(t, api.Cee, s, "", 0, api.ErrNote)
	}
	for _, d := range noDialects {
		for _, s := range []string{"", "{}", "/**/", "{\x01", "{" + strings.Repeat("a", 1025) + "}"} {
			wantRead(t, d, s, "", 0, api.ErrArg)
		}
	}
}

func TestReadOfAllShortTexts(t *testing.T) {
	for _, s := range shortTexts(5, "\\}{*/a\x01\xc3") {
		for d, opening := range map[int]string{api.Pas: "{", api.Cee: "/*"} {
			for _, x := range []string{s, opening + s} {
				text, used, e := readOf(d, x)
				wantRead(t, d, x, text, used, e)
			}
		}
	}
}

func TestReadOfEveryByte(t *testing.T) {
	for i := range 256 {
		b := string([]byte{byte(i)})
		for _, d := range dialects {
			for _, s := range []string{b, `\` + b, "a" + b, b + "a"} {
				whole := "{" + s + "}"
				if d == api.Cee {
					whole = "/*" + s + "*/"
				}
				text, used, e := readOf(d, whole)
				wantRead(t, d, whole, text, used, e)
			}
		}
	}
	for b, e := range map[string]api.Errno{"\x08": api.ErrNote, "\x09": api.OK, "\x0a": api.OK, "\x0b": api.ErrNote, "\x1f": api.ErrNote, "\x20": api.OK, "\x7e": api.OK, "\x7f": api.ErrNote, "\x00": api.ErrNote, "\x0d": api.ErrNote, "\x80": api.ErrNote, "\xff": api.ErrNote} {
		if _, _, got := Read(api.Pas, "{"+b+"}"); got != e {
			t.Fatalf("Read of %q: %d, want %d", b, got, e)
		}
		if _, _, got := Read(api.Cee, "/*"+b+"*/"); got != e {
			t.Fatalf("Read of %q: %d, want %d", b, got, e)
		}
	}
}

func TestReadOfLongTexts(t *testing.T) {
	for _, b := range []string{"a", "}", `\`, "*", "/", "\n"} {
		most := strings.Repeat(b, 1024)
		for _, d := range dialects {
			// The \ of the form are no bytes of the text.
			form := formOf(d, most)
			wantRead(t, d, form+"}*/", most, len(form), api.OK)
			wantRead(t, d, formOf(d, most+b), "", 0, api.ErrLong)
		}
	}
}

func TestReadTellsTheFirstErrorOfTheByte(t *testing.T) {
	most := strings.Repeat("a", 1024)
	for _, c := range []struct {
		behind string
		e      api.Errno
	}{
		{"", api.ErrNote},
		{"\x01", api.ErrNote},
		{"\xff", api.ErrNote},
		{`\`, api.ErrNote},
		{`\a`, api.ErrNote},
		{`\\`, api.ErrLong},
		{"a", api.ErrLong},
		// Bytes are read one by one: what stands behind the one too many isn't.
		{"a\x01", api.ErrLong},
	} {
		wantRead(t, api.Pas, "{"+most+c.behind, "", 0, c.e)
		wantRead(t, api.Cee, "/*"+most+c.behind, "", 0, c.e)
	}
	wantRead(t, api.Pas, "{"+most+`\}}`, "", 0, api.ErrLong)
	wantRead(t, api.Cee, "/*"+most+`\**/`, "", 0, api.ErrLong)
	wantRead(t, api.Cee, "/*"+most+"*", "", 0, api.ErrLong)
	wantRead(t, api.Pas, "{\x01"+most+"a}", "", 0, api.ErrNote)
}

func TestReadTakesWhatPrintGives(t *testing.T) {
	for _, s := range shortTexts(6, `\}{*/a`) {
		for _, d := range dialects {
			form, e := Print(d, s)
			if e != api.OK || !Begins(d, form) {
				t.Fatalf("Print(%d, %q): %q %d", d, s, form, e)
			}
			for _, behind := range []string{"", "}", "*/", "/", "\\", "\x01", form} {
				wantRead(t, d, form+behind, s, len(form), api.OK)
			}
		}
	}
}
