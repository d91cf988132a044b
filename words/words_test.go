package words

import (
	"math"
	"slices"
	"strconv"
	"strings"
	"testing"

	"pantograph/api"
)

// The words as the chapter writes them.
const (
	pasWords = "and array begin boolean char div do downto else end false for forward function if integer mod not of or procedure program read record repeat return then to true type until var while write"
	ceeWords = "bool char do downto else false for get if int main program put return struct to true until up void while"
)

var noDialects = []int{math.MinInt, -1, 2, 3, 256, math.MaxInt}

func wordsOf(dialect int) []string {
	switch dialect {
	case api.Pas:
		return strings.Fields(pasWords)
	case api.Cee:
		return strings.Fields(ceeWords)
	}
	return nil
}

func someWords() []string {
	both := append(wordsOf(api.Pas), wordsOf(api.Cee)...)
	slices.Sort(both)
	return slices.Compact(both)
}

// shortTexts are all texts of up to most bytes, each one of those.
func shortTexts(most int, bytes string) []string {
	all := []string{""}
	from := 0
	for range most {
		upto := len(all)
		for _, s := range all[from:upto] {
			for i := range len(bytes) {
				all = append(all, s+bytes[i:i+1])
			}
		}
		from = upto
	}
	return all
}

func TestAllHasEachWordInItsOrder(t *testing.T) {
	for _, dialect := range []int{api.Pas, api.Cee} {
		got := All(dialect)
		if !slices.Equal(got, wordsOf(dialect)) {
			t.Fatalf("All(%d) = %q", dialect, got)
		}
		for i := 1; i < len(got); i++ {
			if got[i-1] >= got[i] {
				t.Fatalf("All(%d): %q ahead of %q", dialect, got[i-1], got[i])
			}
		}
	}
}

func TestAllOfNoDialectIsNothing(t *testing.T) {
	for _, dialect := range noDialects {
		if got := All(dialect); len(got) != 0 {
			t.Fatalf("All(%d) = %q", dialect, got)
		}
	}
}

func TestAllIsNewMemory(t *testing.T) {
	for _, dialect := range []int{api.Pas, api.Cee} {
		first := All(dialect)
		want := slices.Clone(first)
		for i := range first {
			first[i] = "x"
		}
		_ = append(first[:0], "y", "z")
		if got := All(dialect); !slices.Equal(got, want) {
			t.Fatalf("All(%d) = %q", dialect, got)
		}
		if !Is(dialect, want[0]) || Is(dialect, "x") || Is(dialect, "y") || Fresh(want[1]) != want[1]+"_1" || !slices.Equal(Clash(dialect, want...), want) {
			t.Fatalf("dialect %d: a word was lost", dialect)
		}
	}
}

func TestIsOfEachWord(t *testing.T) {
	for _, word := range someWords() {
		for _, dialect := range []int{api.Pas, api.Cee} {
			if got, want := Is(dialect, word), slices.Contains(wordsOf(dialect), word); got != want {
				t.Fatalf("Is(%d, %q) = %v", dialect, word, got)
			}
		}
		for _, dialect := range noDialects {
			if Is(dialect, word) {
				t.Fatalf("Is(%d, %q)", dialect, word)
			}
		}
	}
}

func TestIsOfWhatIsNearlyAWord(t *testing.T) {
	near := []string{"", " ", "a", "x", "begin end", "and array"}
	for _, word := range someWords() {
		near = append(near, strings.ToUpper(word), strings.ToUpper(word[:1])+word[1:], word+"_1", word+" ", " "+word, word+"\x00", word+word, word[:len(word)-1]+"\xff")
	}
	for _, s := range near {
		for _, dialect := range []int{api.Pas, api.Cee} {
			if Is(dialect, s) {
				t.Fatalf("Is(%d, %q)", dialect, s)
			}
		}
	}
}

func TestIsOfAllShortTexts(t *testing.T) {
	for _, s := range shortTexts(3, "abcdefghijklmnopqrstuvwxyz_0") {
		for _, dialect := range []int{api.Pas, api.Cee} {
			if got, want := Is(dialect, s), slices.Contains(wordsOf(dialect), s); got != want {
				t.Fatalf("Is(%d, %q) = %v", dialect, s, got)
			}
		}
	}
}

func wantCheck(t *testing.T, s string, want api.Errno) {
	t.Helper()
	if got := Check(s); got != want {
		t.Fatalf("Check(%q) = %d, want %d", s, got, want)
	}
}

func TestCheckOfNames(t *testing.T) {
	for _, s := range []string{"a", "z", "m", "ab", "a0", "a9", "a_", "a__", "a_1", "x1y2_z3", "a0_", "begin_1"} {
		wantCheck(t, s, api.OK)
	}
	for _, word := range someWords() {
		wantCheck(t, word, api.OK)
	}
}

func TestCheckOfNoNames(t *testing.T) {
	for _, s := range []string{"", " ", "_", "_a", "0", "1a", "A", "aB", "a b", " a", "a ", "a\n", "a-b", "a$b", "a.b", "$", "\x00", "a\x00", "\u00e9", "a\u00e9", "a\xff", "\xc3"} {
		wantCheck(t, s, api.ErrName)
	}
}

func TestCheckOfEachByte(t *testing.T) {
	for n := range 256 {
		b := string([]byte{byte(n)})
		begins := strings.Contains("abcdefghijklmnopqrstuvwxyz", b)
		goesOn := begins || strings.Contains("0123456789_", b)
		for _, c := range []struct {
			s  string
			ok bool
		}{
			{b, begins}, {b + "a", begins}, {"a" + b, goesOn}, {"a" + b + "a", goesOn}, {"a_0" + b, goesOn},
		} {
			want := api.ErrName
			if c.ok {
				want = api.OK
			}
			wantCheck(t, c.s, want)
		}
	}
}

func TestCheckOfLongTexts(t *testing.T) {
	for _, c := range []struct {
		length int
		want   api.Errno
	}{
		{api.MaxName - 1, api.OK}, {api.MaxName, api.OK}, {api.MaxName + 1, api.ErrLong}, {api.MaxName + 2, api.ErrLong}, {256 + 1, api.ErrLong}, {api.MaxText + 1, api.ErrLong},
	} {
		for _, behind := range []string{"a", "0", "_"} {
			wantCheck(t, "a"+strings.Repeat(behind, c.length-1), c.want)
		}
	}
}

func TestCheckOfLongTextsThatAreNoNames(t *testing.T) {
	long := strings.Repeat("a", api.MaxName+1)
	for _, s := range []string{
		"_" + long, "0" + long, "A" + long, long + "A", long + " ", long + "\x00", long + "\xff",
		long[:16] + "$" + long, strings.Repeat("a", api.MaxName) + "$", strings.Repeat("_", api.MaxName+1),
		strings.Repeat("a", api.MaxText) + ".",
	} {
		wantCheck(t, s, api.ErrName)
	}
	wantCheck(t, strings.Repeat("a", api.MaxName-1)+"$", api.ErrName)
}

// freshOf says what Fresh answers in the document's own words: all that are asked for are made, and held against one after another.
func freshOf(s string, taken []string) string {
	row := []string{s}
	first := s
	if len(first) > 24 {
		first = first[:24]
	}
	for n := range len(taken) + 1 {
		row = append(row, first+"_"+strconv.Itoa(n+1))
	}
	for _, name := range row {
		if !slices.Contains(someWords(), name) && !slices.Contains(taken, name) {
			return name
		}
	}
	return "none"
}

func wantFresh(t *testing.T, want, s string, taken ...string) {
	t.Helper()
	if got := Fresh(s, taken...); got != want {
		t.Fatalf("Fresh(%q, %q) = %q, want %q", s, taken, got, want)
	}
}

func TestFreshByExamples(t *testing.T) {
	wantFresh(t, "begin_1", "begin")
	wantFresh(t, "a", "a")
	wantFresh(t, "a_2", "a", "a", "a_1")
	wantFresh(t, "a", "a", "b", "a_1", "A", "a ", "")
	wantFresh(t, "a_1", "a", "a")
	wantFresh(t, "a_1", "a", "b", "a", "a")
	wantFresh(t, "a_1", "a", "a", "a_2", "a_3")
	wantFresh(t, "a_3", "a", "a_2", "a_1", "a", "a_4")
	wantFresh(t, "a_1", "a", "a", "a_01", "a_0", "a_")
	wantFresh(t, "a_1_1", "a_1", "a_1", "a", "a_2")
}

func TestFreshOfWords(t *testing.T) {
	for _, word := range someWords() {
		wantFresh(t, word+"_1", word)
		wantFresh(t, word+"_1", word, word)
		wantFresh(t, word+"_2", word, word+"_1")
		wantFresh(t, word+"_3", word, word+"_2", "x", word+"_1")
		wantFresh(t, word+"_1", word+"_1")
		wantFresh(t, word+"_1_1", word+"_1", word+"_1")
	}
}

func TestFreshOfTextsThatAreNoNames(t *testing.T) {
	for _, s := range []string{"", " ", "_", "_1", "1", "A", "BEGIN", "a b", "f$g", "\x00", "\xff\xfe", "\u20ac", "a\nb"} {
		wantFresh(t, s, s)
		wantFresh(t, s+"_1", s, s)
		wantFresh(t, s+"_2", s, s, s+"_1")
	}
}

func TestFreshOfLongTexts(t *testing.T) {
	a := func(n int) string { return strings.Repeat("a", n) }
	for _, n := range []int{23, 24, 25, 26, 32, 33, 1000} {
		head := a(min(n, 24))
		wantFresh(t, a(n), a(n))
		wantFresh(t, head+"_1", a(n), a(n))
		wantFresh(t, head+"_2", a(n), a(n), head+"_1")
	}
	// A taken one with all its bytes ahead of _ is none that is asked for.
	wantFresh(t, a(24)+"_1", a(25), a(25), a(25)+"_1")
	wantFresh(t, a(24)+"_2", a(25), a(24)+"_1", a(25), a(25)+"_2")
	// The bytes behind the 24th are gone, whatever they are; a rune may be cut within.
	wantFresh(t, a(24)+"_1", a(24)+"xyz", a(24)+"xyz")
	wantFresh(t, a(23)+"\xe2_1", a(23)+"\u20ac", a(23)+"\u20ac")
	wantFresh(t, a(23)+"__1", a(23)+"_1", a(23)+"_1")
	// A long text may be its own first one.
	wantFresh(t, a(24)+"_2", a(24)+"_1", a(24)+"_1")
	wantFresh(t, a(24)+"_1", a(24)+"_2", a(24)+"_2")
	wantFresh(t, a(24)+"_3", a(24)+"_2", a(24)+"_2", a(24)+"_1")
	// What begins with a word is none.
	wantFresh(t, "begin"+a(24), "begin"+a(24))
}

func TestFreshOfManyTaken(t *testing.T) {
	const many = 20000
	taken := []string{"x"}
	for n := range many {
		taken = append(taken, "x_"+strconv.Itoa(n+1))
	}
	wantFresh(t, "x_"+strconv.Itoa(many+1), "x", taken...)
	slices.Reverse(taken)
	wantFresh(t, "x_"+strconv.Itoa(many+1), "x", taken...)
	gap := slices.Index(taken, "x_999")
	wantFresh(t, "x_999", "x", slices.Delete(taken, gap, gap+1)...)
}

func TestFreshOfAllShortRowsOfTaken(t *testing.T) {
	a24 := strings.Repeat("a", 24)
	names := []string{"", "_1", "a", "a_1", "a_2", "a_1_1", "if", "if_1", a24, a24 + "_1", a24 + "b"}
	rows := [][]string{nil}
	for from, upto := 0, 1; upto < 1+11+121+1331; {
		for _, row := range rows[from:upto] {
			for _, name := range names {
				rows = append(rows, append(slices.Clone(row), name))
			}
		}
		from, upto = upto, len(rows)
	}
	for _, row := range rows {
		for _, s := range names {
			wantFresh(t, freshOf(s, row), s, row...)
		}
	}
}

func wantClash(t *testing.T, dialect int, names, want []string) {
	t.Helper()
	if got := Clash(dialect, names...); !slices.Equal(got, want) {
		t.Fatalf("Clash(%d, %q) = %q, want %q", dialect, names, got, want)
	}
}

func TestClashByExamples(t *testing.T) {
	wantClash(t, api.Cee, []string{"x", "int", "put", "int"}, []string{"int", "put"})
	wantClash(t, api.Pas, []string{"x", "int", "put", "int"}, nil)
	wantClash(t, api.Pas, []string{"while", "x", "and", "", "while", "begin", "and", "and"}, []string{"while", "and", "begin"})
	wantClash(t, api.Cee, []string{"begin", "while", "and"}, []string{"while"})
	wantClash(t, api.Pas, []string{"BEGIN", "begin_1", " begin", "begin\x00", "", "\xff"}, nil)
}

func TestClashOfNoNames(t *testing.T) {
	for _, dialect := range append([]int{api.Pas, api.Cee}, noDialects...) {
		wantClash(t, dialect, nil, nil)
		wantClash(t, dialect, []string{}, nil)
	}
}

func TestClashOfNoDialect(t *testing.T) {
	for _, dialect := range noDialects {
		wantClash(t, dialect, someWords(), nil)
	}
}

func TestClashOfAllWords(t *testing.T) {
	both := append(someWords(), someWords()...)
	turned := slices.Clone(both)
	slices.Reverse(turned)
	for _, dialect := range []int{api.Pas, api.Cee} {
		want := wordsOf(dialect)
		wantClash(t, dialect, both, want)
		slices.Reverse(want)
		wantClash(t, dialect, turned, want)
	}
}

// A word that is gone from what is left of one call is there for the next one.
func TestClashKeepsNothing(t *testing.T) {
	for range 3 {
		wantClash(t, api.Cee, []string{"up", "void", "up"}, []string{"up", "void"})
	}
}

func TestNamesThatAreHandedInStay(t *testing.T) {
	whole := []string{"int", "if", "int", "x", "behind", "if_1"}
	before := slices.Clone(whole)
	part := whole[:4]
	wantFresh(t, "if_1", "if", part...)
	for _, dialect := range []int{api.Pas, api.Cee, 2} {
		told := Clash(dialect, part...)
		_ = append(told, "written")
		for i := range told {
			told[i] = "written"
		}
	}
	if !slices.Equal(whole, before) {
		t.Fatalf("%q, want %q", whole, before)
	}
}
