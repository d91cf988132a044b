package sink

import (
	"math"
	"slices"
	"strings"
	"testing"

	"pantograph/api"
)

// model says in the document's own words what a sink does: texts are put together whole, and their length is held against the room.
type model struct {
	most, indentation int
	written           string
	full              bool
}

func (m *model) put(text string) bool {
	if m.full || len(m.written)+len(text) > max(m.most, 0) {
		m.full = true
		return false
	}
	m.written += text
	return true
}

func (m *model) blanks() string { return strings.Repeat("  ", m.indentation) }

type step struct {
	name   string
	onSink func(*Sink) bool
	on     func(*model) bool
}

// stepsWith are all calls that write, with those parts.
func stepsWith(parts ...string) []step {
	name := "(" + strings.Join(parts, ", ") + ")"
	all := strings.Join(parts, "")
	return []step{
		{"Put" + name, func(s *Sink) bool { return s.Put(parts...) }, func(m *model) bool { return m.put(all) }},
		{"Begin" + name, func(s *Sink) bool { return s.Begin(parts...) }, func(m *model) bool { return m.put(m.blanks() + all) }},
		{"End" + name, func(s *Sink) bool { return s.End(parts...) }, func(m *model) bool { return m.put(all + "\n") }},
		{"Line" + name, func(s *Sink) bool { return s.Line(parts...) }, func(m *model) bool { return m.put(m.blanks() + all + "\n") }},
	}
}

func allSteps() []step {
	steps := []step{
		{"In", func(s *Sink) bool { s.In(); return true }, func(m *model) bool { m.indentation++; return true }},
		{"Out", func(s *Sink) bool { s.Out(); return true }, func(m *model) bool { m.indentation = max(m.indentation-1, 0); return true }},
	}
	steps = append(steps, stepsWith()...)
	steps = append(steps, stepsWith("")...)
	return append(steps, stepsWith("a", "bc")...)
}

func want(t *testing.T, s *Sink, written string, full bool) {
	t.Helper()
	if s.String() != written || s.Len() != len(written) || s.Full() != full {
		t.Fatalf("%q, %d bytes, full %v, want %q, full %v", s.String(), s.Len(), s.Full(), written, full)
	}
}

func TestNewHasNothingWritten(t *testing.T) {
	for _, most := range []int{math.MinInt, -1, 0, 1, 9, api.MaxText, math.MaxInt} {
		want(t, New(most), "", false)
	}
}

func TestExamplesOfTheChapter(t *testing.T) {
	s := New(9)
	s.In()
	if !s.Line("a", "b") {
		t.Fatal("Line")
	}
	want(t, s, "  ab\n", false)
	if s.Put("12345") {
		t.Fatal("Put of five bytes")
	}
	want(t, s, "  ab\n", true)
	if s.Put() || s.Put("") {
		t.Fatal("Put of nothing")
	}
	want(t, s, "  ab\n", true)
}

func TestPutWritesOneBehindTheOther(t *testing.T) {
	s := New(100)
	if !s.Put("a") || !s.Put("b", "", "cd") || !s.Put() || !s.Put("\n", "\x00\xff\u20ac") {
		t.Fatal("false")
	}
	want(t, s, "abcd\n\x00\xff\u20ac", false)
}

func TestPutIgnoresTheIndentation(t *testing.T) {
	s := New(100)
	s.In()
	s.Put("a", "\n", "b")
	s.End("c")
	want(t, s, "a\nbc\n", false)
}

func TestNoRoomAtAll(t *testing.T) {
	for _, most := range []int{math.MinInt, -5, -1, 0} {
		s := New(most)
		if !s.Put() || !s.Put("") || !s.Put("", "") || !s.Begin() || !s.Begin("") {
			t.Fatalf("New(%d): nothing has room everywhere", most)
		}
		want(t, s, "", false)
		for _, refused := range []func() bool{
			func() bool { return New(most).Put("a") },
			func() bool { return New(most).End() },
			func() bool { return New(most).Line() },
			func() bool { s := New(most); s.In(); return s.Begin() },
		} {
			if refused() {
				t.Fatalf("New(%d): written", most)
			}
		}
		if s.Put("", "a") {
			t.Fatalf("New(%d): written", most)
		}
		want(t, s, "", true)
	}
}

func TestRoomToTheLastByteAndOneMore(t *testing.T) {
	for _, steps := range [][]step{stepsWith(), stepsWith("abc"), stepsWith("a", "", "bc"), stepsWith("a", "b", "c", "d")} {
		for _, c := range steps {
			for depth := range 4 {
				fits := model{most: math.MaxInt, indentation: depth}
				c.on(&fits)
				for _, ahead := range []string{"", "xyz"} {
					need := len(ahead) + len(fits.written)
					for most := range need + 3 {
						s := New(most)
						if most < len(ahead) {
							continue
						}
						s.Put(ahead)
						for range depth {
							s.In()
						}
						got := c.onSink(s)
						if got != (most >= need) {
							t.Fatalf("%s, room for %d: %v", c.name, most, got)
						}
						if got {
							want(t, s, ahead+fits.written, false)
						} else {
							want(t, s, ahead, true)
						}
					}
				}
			}
		}
	}
}

func TestNothingIsWrittenOnceItIsFull(t *testing.T) {
	for _, c := range allSteps()[2:] {
		s := New(10)
		s.Put("abc")
		if s.Put("12345", "678") {
			t.Fatal("room")
		}
		want(t, s, "abc", true)
		if c.onSink(s) {
			t.Fatal(c.name)
		}
		s.In()
		s.Out()
		want(t, s, "abc", true)
	}
}

func TestFullIsNotWhenTheRoomIsUsedUp(t *testing.T) {
	s := New(3)
	s.Put("abc")
	want(t, s, "abc", false)
	if !s.Put() || !s.Put("") || !s.Begin() {
		t.Fatal("nothing has room")
	}
	want(t, s, "abc", false)
	if s.Put("d") {
		t.Fatal("room")
	}
	want(t, s, "abc", true)
}

func TestInAndOut(t *testing.T) {
	s := New(100)
	s.Out()
	s.Out()
	s.Line("a")
	s.In()
	s.Line("b")
	s.In()
	s.In()
	s.Line("c")
	s.Out()
	s.Line("d")
	s.Out()
	s.Out()
	s.Out()
	s.Out()
	s.Line("e")
	s.In()
	s.Line("f")
	want(t, s, "a\n  b\n      c\n    d\ne\n  f\n", false)
}

func TestNoPartsAtAll(t *testing.T) {
	s := New(100)
	s.In()
	for _, c := range []struct {
		write   func(...string) bool
		written string
	}{
		{s.Begin, "  "},
		{s.End, "  \n"},
		{s.Line, "  \n  \n"},
		{s.Put, "  \n  \n"},
	} {
		if !c.write() {
			t.Fatal("false")
		}
		want(t, s, c.written, false)
	}
}

// A Put of blanks and another one of the parts would leave the blanks behind.
func TestALineIsPutWholeOrNotAtAll(t *testing.T) {
	for most := range 7 {
		s := New(most)
		s.In()
		s.In()
		if got := s.Line("a", "b"); got {
			t.Fatalf("room for %d", most)
		}
		want(t, s, "", true)
	}
}

func TestAllShortRowsOfCalls(t *testing.T) {
	steps := allSteps()
	var row [4]int
	for n := range len(steps) * len(steps) * len(steps) * len(steps) {
		for i := range row {
			row[i] = n % len(steps)
			n /= len(steps)
		}
		for most := -1; most < 12; most++ {
			goRow(t, most, steps, row[:])
		}
	}
}

func goRow(t *testing.T, most int, steps []step, row []int) {
	s, m := New(most), model{most: most}
	for i, at := range row {
		got, want := steps[at].onSink(s), steps[at].on(&m)
		if got != want || s.String() != m.written || s.Len() != len(m.written) || s.Full() != m.full {
			names := ""
			for _, at := range row[:i+1] {
				names += steps[at].name + " "
			}
			t.Fatalf("New(%d) %s: %v %q %d %v, want %v %q %v", most, names, got, s.String(), s.Len(), s.Full(), want, m.written, m.full)
		}
	}
}

func TestNilSink(t *testing.T) {
	var s *Sink
	s.In()
	s.Out()
	for _, c := range append(stepsWith(), append(stepsWith(""), stepsWith("a", "b")...)...) {
		if c.onSink(s) {
			t.Fatal(c.name)
		}
	}
	want(t, s, "", true)
}

// The zero value is no sink that New made, but no call may panic on it.
func TestZeroSink(t *testing.T) {
	var s Sink
	s.Out()
	want(t, &s, "", false)
	if !s.Put() || s.Line("a") {
		t.Fatal("room for none")
	}
	want(t, &s, "", true)
}

func TestWhatIsHandedInStays(t *testing.T) {
	for i := range 4 {
		s := New(100)
		s.In()
		behind := []string{"a", "b", "behind", "further"}
		parts := behind[:2]
		write := []func(...string) bool{s.Put, s.Begin, s.End, s.Line}[i]
		write(parts...)
		if !slices.Equal(behind, []string{"a", "b", "behind", "further"}) {
			t.Fatalf("%q", behind)
		}
		written := s.String()
		parts[0], parts[1] = "x", "y"
		if s.String() != written {
			t.Fatalf("kept: %q", s.String())
		}
	}
}

func TestAnAnswerStaysAsItIs(t *testing.T) {
	s := New(1000)
	var told []string
	for range 100 {
		s.Put("ab")
		told = append(told, s.String())
	}
	for i, text := range told {
		if text != strings.Repeat("ab", i+1) {
			t.Fatalf("%d: %q", i, text)
		}
	}
}

func TestTwoSinksAreTwo(t *testing.T) {
	a, b := New(10), New(3)
	a.In()
	a.Line("x")
	b.Line("y")
	b.Put("zz")
	want(t, a, "  x\n", false)
	want(t, b, "y\n", true)
}

func TestAWholeText(t *testing.T) {
	s := New(api.MaxText)
	line := strings.Repeat("a", 61)
	s.In()
	for range api.MaxText / 64 {
		if !s.Line(line) {
			t.Fatal("room")
		}
	}
	want(t, s, strings.Repeat("  "+line+"\n", api.MaxText/64), false)
	if s.End() || !s.Full() || s.Len() != api.MaxText {
		t.Fatal("one more")
	}
}

func TestGreatestRoomAndGreatIndentation(t *testing.T) {
	const depth = 1 << 20
	wide, narrow := New(math.MaxInt), New(2*depth)
	for range depth {
		wide.In()
		narrow.In()
	}
	if !wide.Line("a") || wide.String() != strings.Repeat("  ", depth)+"a\n" {
		t.Fatal("wide")
	}
	if !narrow.Begin() || narrow.Len() != 2*depth || narrow.Begin() || !narrow.Full() {
		t.Fatal("narrow")
	}
}
