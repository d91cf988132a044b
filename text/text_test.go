package text

import (
	"math"
	"strings"
	"testing"

	"pantograph/api"
)

const (
	least    = math.MinInt
	greatest = math.MaxInt
)

// placeOf says what a place is in the document's own words, apart from the cursor.
func placeOf(s string, at int) api.Pos {
	ahead := s[:at]
	return api.Pos{At: at, Line: strings.Count(ahead, "\n"), Col: at - (strings.LastIndexByte(ahead, '\n') + 1)}
}

// shortTexts are all texts of up to most bytes made of a few bytes, line feeds among them.
func shortTexts(most int) []string {
	all := []string{""}
	from := 0
	for range most {
		upto := len(all)
		for _, s := range all[from:upto] {
			for _, b := range []string{"a", "b", "\n", "\xff"} {
				all = append(all, s+b)
			}
		}
		from = upto
	}
	return all
}

func wantByte(t *testing.T, what string, b byte, ok bool, s string, at int) {
	t.Helper()
	if at < 0 || at >= len(s) {
		if b != 0 || ok {
			t.Fatalf("%s of %q at %d: %d %v, want 0 false", what, s, at, b, ok)
		}
		return
	}
	if b != s[at] || !ok {
		t.Fatalf("%s of %q at %d: %d %v, want %d true", what, s, at, b, ok, s[at])
	}
}

func wantPos(t *testing.T, got, want api.Pos) {
	t.Helper()
	if got != want {
		t.Fatalf("place %v, want %v", got, want)
	}
}

func TestNewStandsAtTheBeginning(t *testing.T) {
	for _, s := range shortTexts(3) {
		c := New(s)
		if c == nil {
			t.Fatalf("New(%q) is nil", s)
		}
		wantPos(t, c.Pos(), api.Pos{})
		b, ok := c.Peek(0)
		wantByte(t, "Peek(0)", b, ok, s, 0)
	}
}

func TestPeekTellsTheByteAndStays(t *testing.T) {
	for _, s := range shortTexts(4) {
		for at := 0; at <= len(s); at++ {
			c := New(s)
			c.Skip(at)
			for i := 0; i <= 6; i++ {
				b, ok := c.Peek(i)
				wantByte(t, "Peek", b, ok, s, at+i)
			}
			for _, i := range []int{-1, -2, -at, least, least + 1, greatest, greatest - 1, 1 << 32} {
				if i == 0 {
					continue
				}
				if b, ok := c.Peek(i); b != 0 || ok {
					t.Fatalf("Peek(%d) of %q at %d: %d %v", i, s, at, b, ok)
				}
			}
			wantPos(t, c.Pos(), placeOf(s, at))
		}
	}
}

func TestNextGoesOnByOne(t *testing.T) {
	for _, s := range shortTexts(5) {
		c := New(s)
		for at := 0; at <= len(s); at++ {
			wantPos(t, c.Pos(), placeOf(s, at))
			b, ok := c.Next()
			wantByte(t, "Next", b, ok, s, at)
		}
		b, ok := c.Next()
		wantByte(t, "Next behind the end", b, ok, s, len(s))
		wantPos(t, c.Pos(), placeOf(s, len(s)))
	}
}

func TestNextTellsANoughtByteFromTheEnd(t *testing.T) {
	c := New("\x00")
	if b, ok := c.Peek(0); b != 0 || !ok {
		t.Fatal(b, ok)
	}
	if b, ok := c.Next(); b != 0 || !ok {
		t.Fatal(b, ok)
	}
	if _, ok := c.Next(); ok {
		t.Fatal("a byte behind the last one")
	}
}

func TestSkipGoesOnByAsManyAsThereAre(t *testing.T) {
	counts := []int{least, -2, -1, 0, 1, 2, 3, 4, 5, 6, 1 << 32, greatest - 1, greatest}
	for _, s := range shortTexts(4) {
		for at := 0; at <= len(s); at++ {
			for _, n := range counts {
				c := New(s)
				if got := c.Skip(at); got != at {
					t.Fatalf("Skip(%d) of %q: %d", at, s, got)
				}
				want := max(0, min(n, len(s)-at))
				if got := c.Skip(n); got != want {
					t.Fatalf("Skip(%d) of %q at %d: %d, want %d", n, s, at, got, want)
				}
				wantPos(t, c.Pos(), placeOf(s, at+want))
			}
		}
	}
}

func TestPosCountsLineFeedsAlone(t *testing.T) {
	c := New("a\nb")
	c.Skip(2)
	wantPos(t, c.Pos(), api.Pos{At: 2, Line: 1, Col: 0})

	c = New("a\r\n\tb\rc\u2028d")
	c.Skip(greatest)
	wantPos(t, c.Pos(), api.Pos{At: 11, Line: 1, Col: 8})

	c = New("\n\n\n")
	c.Skip(2)
	wantPos(t, c.Pos(), api.Pos{At: 2, Line: 2})
}

func TestWhileGoesOnAsLongAsTheSetHasIt(t *testing.T) {
	for _, s := range shortTexts(4) {
		for _, set := range []string{"", "a", "ba", "\n", "a\n", "\xff", "ab\n\xff", "x", "aaaa"} {
			for at := 0; at <= len(s); at++ {
				end := at
				for end < len(s) && strings.IndexByte(set, s[end]) >= 0 {
					end++
				}
				c := New(s)
				c.Skip(at)
				if got := c.While(set); got != s[at:end] {
					t.Fatalf("While(%q) of %q at %d: %q, want %q", set, s, at, got, s[at:end])
				}
				wantPos(t, c.Pos(), placeOf(s, end))
				if got := c.While(set); got != "" {
					t.Fatalf("While(%q) of %q again: %q", set, s, got)
				}
				wantPos(t, c.Pos(), placeOf(s, end))
			}
		}
	}
}

func TestWhileTakesTheSetByteByByte(t *testing.T) {
	c := New("\xa9\xc3\xc3x\xa9") // the bytes of é, but not é
	if got := c.While("\xc3\xa9"); got != "\xa9\xc3\xc3" {
		t.Fatalf("%q", got)
	}
	wantPos(t, c.Pos(), api.Pos{At: 3, Col: 3})

	c = New("\x00\x00a")
	if got := c.While("\x00"); got != "\x00\x00" {
		t.Fatalf("%q", got)
	}

	var all [256]byte
	for i := range all {
		all[i] = byte(i)
	}
	c = New(string(all[:]))
	if got := c.While(string(all[:])); got != string(all[:]) {
		t.Fatalf("%q", got)
	}
	for i := range all {
		c = New(string(all[:]))
		c.Skip(i)
		if got := c.While(string(all[i : i+1])); got != string(all[i:i+1]) {
			t.Fatalf("%d: %q", i, got)
		}
	}
}

func TestWhileOfLongTexts(t *testing.T) {
	// A search of the set for each byte would take many minutes here.
	long := strings.Repeat("b", 1<<22)
	set := long[1:] + "a"
	text := strings.Repeat("a", 1<<22)
	c := New(text + "c")
	if got := c.While(set); got != text {
		t.Fatal(len(got))
	}
	wantPos(t, c.Pos(), api.Pos{At: 1 << 22, Col: 1 << 22})
}

func TestNilCursor(t *testing.T) {
	var c *Cursor
	for _, i := range []int{least, -1, 0, 1, greatest} {
		if b, ok := c.Peek(i); b != 0 || ok {
			t.Fatal(i, b, ok)
		}
		if n := c.Skip(i); n != 0 {
			t.Fatal(i, n)
		}
	}
	if b, ok := c.Next(); b != 0 || ok {
		t.Fatal(b, ok)
	}
	if s := c.While("") + c.While("abc"); s != "" {
		t.Fatal(s)
	}
	wantPos(t, c.Pos(), api.Pos{})
}

func TestZeroCursorIsOneOfAnEmptyText(t *testing.T) {
	var c Cursor
	if b, ok := c.Next(); b != 0 || ok || c.Skip(1) != 0 || c.While("a") != "" {
		t.Fatal(b, ok)
	}
	wantPos(t, c.Pos(), api.Pos{})
}

func TestCursorsAreApart(t *testing.T) {
	one, two := New("a\nb"), New("a\nb")
	one.Skip(2)
	wantPos(t, two.Pos(), api.Pos{})
	if b, ok := two.Next(); b != 'a' || !ok {
		t.Fatal(b, ok)
	}
	wantPos(t, one.Pos(), api.Pos{At: 2, Line: 1})
}

func TestAt(t *testing.T) {
	for _, s := range shortTexts(5) {
		for at := 0; at <= len(s); at++ {
			wantPos(t, At(s, at), placeOf(s, at))
		}
		for _, at := range []int{len(s) + 1, len(s) + 2, 1 << 32, greatest} {
			wantPos(t, At(s, at), placeOf(s, len(s)))
		}
		for _, at := range []int{-1, -len(s) - 1, least} {
			wantPos(t, At(s, at), api.Pos{})
		}
	}
	wantPos(t, At("ab\ncd\n", 5), api.Pos{At: 5, Line: 1, Col: 2})
	wantPos(t, At("ab\ncd\n", 6), api.Pos{At: 6, Line: 2, Col: 0})
}

func TestNumberReadsDigits(t *testing.T) {
	noughts := strings.Repeat("0", 1000)
	for s, want := range map[string]int64{
		"0":                             0,
		"00":                            0,
		"7":                             7,
		"007":                           7,
		"10":                            10,
		"1234567890":                    1234567890,
		"999999999999999999":            999999999999999999,
		"1000000000000000000":           1000000000000000000,
		"9223372036854775799":           1<<63 - 9,
		"9223372036854775806":           1<<63 - 2,
		"9223372036854775807":           1<<63 - 1,
		"00000000000000000000000000010": 10,
		noughts:                         0,
		noughts + "9223372036854775807": 1<<63 - 1,
	} {
		if n, e := Number(s); n != want || e != api.OK {
			t.Errorf("Number(%q): %d %d, want %d", s, n, e, want)
		}
	}
}

func TestNumberTooGreat(t *testing.T) {
	for _, s := range []string{
		"9223372036854775808", "9223372036854775809", "9223372036854775810", "9223372036854775900",
		"10000000000000000000", "18446744073709551615", "18446744073709551616", "18446744073709551617",
		"92233720368547758070", "36893488147419103233", strings.Repeat("0", 50) + "9223372036854775808",
		strings.Repeat("9", 1000), "1" + strings.Repeat("0", 1000),
	} {
		if n, e := Number(s); n != 0 || e != api.ErrNumber {
			t.Errorf("Number(%q): %d %d, want 0 ErrNumber", s, n, e)
		}
	}
}

func TestNumberOfWhatIsNoDigit(t *testing.T) {
	great := strings.Repeat("9", 40)
	for _, s := range []string{
		"", "-", "-1", "-0", "+1", " 1", "1 ", "1\n", "1_000", "0x10", "0b1", "1e3", "1.", "a", "1a", "a1", "1a1",
		"\x00", "1\x00", "\xb1", "\xff", "\u0661", "\uff11", "12\u00b2",
		great + "a", "-" + great, great + " " + great,
	} {
		if n, e := Number(s); n != 0 || e != api.ErrByte {
			t.Errorf("Number(%q): %d %d, want 0 ErrByte", s, n, e)
		}
	}
	for b := range 256 {
		isDigit := b >= '0' && b <= '9'
		s := string([]byte{'1', byte(b), '2'})
		if _, e := Number(s); (e == api.OK) != isDigit || !isDigit && e != api.ErrByte {
			t.Errorf("Number(%q): %d", s, e)
		}
	}
}

func TestDigits(t *testing.T) {
	for n, want := range map[int64]string{
		0:              "0",
		1:              "1",
		-1:             "-1",
		9:              "9",
		10:             "10",
		-10:            "-10",
		100:            "100",
		-100:           "-100",
		1234567890:     "1234567890",
		math.MaxInt32:  "2147483647",
		math.MinInt32:  "-2147483648",
		1<<63 - 1:      "9223372036854775807",
		-1<<63 + 1:     "-9223372036854775807",
		math.MinInt64:  "-9223372036854775808",
		-7000000000000: "-7000000000000",
	} {
		if s := Digits(n); s != want {
			t.Errorf("Digits(%d): %q", n, s)
		}
	}
}

func TestNumberOfDigits(t *testing.T) {
	tryOne := func(n int64) {
		if got, e := Number(Digits(n)); got != n || e != api.OK {
			t.Errorf("%d: %d %d", n, got, e)
		}
		if n > 0 && Digits(-n) != "-"+Digits(n) {
			t.Errorf("%d: %q", -n, Digits(-n))
		}
	}
	for n := int64(0); n < 2000; n++ {
		tryOne(n)
		tryOne(math.MaxInt64 - n)
	}
	for i := range 63 {
		tryOne(1 << i)
		tryOne(1<<i - 1)
	}
}

func TestJoin(t *testing.T) {
	var none []string
	if Join() != "" || Join(none...) != "" || Join("") != "" || Join("", "", "") != "" {
		t.Fatal("joined out of nothing")
	}
	if s := Join("a"); s != "a" {
		t.Fatal(s)
	}
	if s := Join("a", "", "bc", "\n", "\xff\x00", "bc"); s != "abc\n\xff\x00bc" {
		t.Fatalf("%q", s)
	}
	if s := Join(" a", " ", "b\n"); s != " a b\n" {
		t.Fatalf("%q", s)
	}
	if s := Join(strings.Split(strings.Repeat("ab ", 5000), " ")...); s != strings.Repeat("ab", 5000) {
		t.Fatal(len(s))
	}
}

func TestJoinLeavesItsPartsAlone(t *testing.T) {
	room := []string{"a", "b", "behind", "behind too"}
	parts := room[:2]
	if s := Join(parts...); s != "ab" {
		t.Fatal(s)
	}
	if room[0] != "a" || room[1] != "b" || room[2] != "behind" || room[3] != "behind too" {
		t.Fatal(room)
	}
	s := Join(parts...)
	parts[0] = "x"
	if s != "ab" {
		t.Fatal(s)
	}
}
