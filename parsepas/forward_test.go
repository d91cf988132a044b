package parsepas

import (
	"math/rand"
	"slices"
	"strings"
	"testing"

	"pantograph/api"
	"pantograph/text"
	"pantograph/tree"
)

func TestForwardHeadings(t *testing.T) {
	f, g := api.Routine{Name: "f"}, api.Routine{Name: "g"}
	wantRead(t, "program p; procedure f; forward; procedure f; begin end; begin end.", api.Program{Name: "p", Routines: []api.Routine{f}})
	wantRead(t, "program p; procedure F; FORWARD; procedure g; begin end; PROCEDURE f; begin end; begin end.", api.Program{Name: "p", Routines: []api.Routine{g, f}})
	wantRead(t, "program p; procedure g; forward; procedure f; forward; procedure f; begin end; procedure g; begin end; begin end.", api.Program{Name: "p", Routines: []api.Routine{f, g}})
	full := api.Routine{Name: "f", Result: api.KindBool, Params: []api.Param{{Name: "a", T: api.Type{Kind: api.KindInt}}, {Name: "b", T: api.Type{Kind: api.KindRec, Name: "r"}, Mode: api.ByRef}}, Body: []api.Stmt{put(1)}}
	full.Before, full.Trail = []string{"b"}, []string{"t"}
	wantRead(t, "program p; function f(a : integer; var b : r) : boolean; forward;\n{b} function F ( A:integer ; var B:R ) : Boolean ;\nbegin write(1); end; {t}\nbegin end.",
		api.Program{Name: "p", Routines: []api.Routine{full}})
	// In an inner list, and the same name in two lists.
	inner := api.Routine{Name: "f", Inner: []api.Routine{f, g}}
	wantRead(t, "program p; procedure f; forward; procedure f; procedure f; forward; procedure f; begin end; procedure g; begin end; begin end; begin end.", api.Program{Name: "p", Routines: []api.Routine{inner}})
	wantRead(t, "program p; procedure f; procedure g; forward; procedure f; begin end; procedure g; begin end; begin end; procedure g; begin end; begin end.", api.Program{Name: "p", Routines: []api.Routine{inner, g}})
	wantRead(t, "program p; procedure h; procedure f; begin end; begin end; function f : char; begin end; begin end.",
		api.Program{Name: "p", Routines: []api.Routine{{Name: "h", Inner: []api.Routine{f}}, {Name: "f", Result: api.KindChar}}})
}

// wantUnreadBehind reads texts with that ahead of each.
func wantUnreadBehind(t *testing.T, ahead string, code api.Errno, some ...string) {
	t.Helper()
	for _, s := range some {
		wantUnread(t, ahead+s, code)
	}
}

func TestHeadingsWithoutARoutine(t *testing.T) {
	wantUnreadBehind(t, "program p; ", api.ErrNone,
		"procedure ^f; forward; begin",
		"procedure ^f; forward; begin end.",
		"procedure ^f; forward; x",
		"procedure ^f; forward;",
		"procedure ^f; forward; {m} begin",
		"procedure ^f; forward; var a : char;",
		"procedure ^f; forward; type",
		"procedure ^f; forward; function g : char; forward; begin",
		"procedure f; forward; procedure ^g; forward; procedure f; begin end; begin",
		"procedure ^g; forward; procedure f; forward; .",
		"procedure f; procedure ^g; forward; begin end; procedure g; begin end;",
		"procedure f; procedure ^g; forward; {n} begin end;",
		"procedure f; procedure ^g; forward; {n} end",
		"procedure f; procedure ^g; forward; forward;",
		"procedure ^g; forward; procedure f; procedure g; begin end; begin end; begin",
		"procedure g; begin end; procedure f; procedure ^g; forward; begin end;",
	)
}

func TestHeadingsOfAnotherRoutine(t *testing.T) {
	wantUnreadBehind(t, "program p; ", api.ErrType,
		"procedure f; forward; function ^f : char;",
		"function f : char; forward; procedure ^f; begin end;",
		"function f : char; forward; function ^f : integer; begin end;",
		"procedure f; forward; procedure ^f(a : char); begin end;",
		"procedure f(a : char); forward; procedure ^f; begin end;",
		"procedure f(a : char); forward; procedure ^f(b : char); begin end;",
		"procedure f(a : char); forward; procedure ^f(a : integer); begin end;",
		"procedure f(a : char); forward; procedure ^f(var a : char); begin end;",
		"procedure f(var a : r); forward; procedure ^f(var a : q); begin end;",
		"procedure f(var a : array[2] of char); forward; procedure ^f(var a : array[3] of char);",
		"procedure f(var a : char); forward; procedure ^f(var a : array[1] of char);",
		"procedure f(a : char; b : char); forward; procedure ^f(a : char);",
		"procedure f(a : char); forward; procedure ^f(a : char; b : char);",
		"procedure f(a : char; b : integer); forward; procedure ^f(b : integer; a : char);",
		"procedure f; forward; procedure ^f(a : char); )",
		"procedure f; forward; procedure ^f(a : char); {n} begin",
		"procedure f; forward; procedure ^f(a : char);",
		"procedure h; procedure f; forward; function ^f : char; begin end;",
	)
}

func TestNamesThatAreThereAlready(t *testing.T) {
	wantUnreadBehind(t, "program p; ", api.ErrTwice,
		"procedure f; forward; procedure ^f; forward;",
		"procedure f; forward; function ^f : char; forward",
		"procedure f; forward; procedure ^f; forward x",
		"procedure f; forward; procedure f; begin end; procedure ^f; forward",
		"procedure f; begin end; procedure ^f; forward;",
		"procedure f; begin end; procedure ^f; begin end;",
		"procedure f; begin end; function ^f : char; begin end;",
		"procedure f; begin end; {n} procedure ^f; begin end;",
		"procedure f; begin end; procedure g; begin end; procedure ^F;",
		"procedure f; forward; procedure f; begin end; procedure ^f; begin end;",
		"procedure f; forward; procedure f; begin end; procedure ^f(a : char); begin end;",
		"procedure f; begin end; procedure ^f; end",
		"procedure f; begin end; procedure ^f; {n} begin",
		"procedure g; forward; procedure f; begin end; procedure ^f; begin end; begin",
		"procedure h; procedure f; begin end; procedure ^f; begin end; begin end;",
		"procedure h; procedure f; forward; procedure ^f; forward;",
		"procedure f; begin end; procedure g; procedure f; begin end; begin end; function ^f : char;",
	)
}

func TestCommentsAheadOfHeadings(t *testing.T) {
	wantUnreadBehind(t, "program p; ", api.ErrPlace,
		"^{n} procedure f; forward",
		"procedure f; forward; ^{n} procedure f; forward;",
		"procedure f; begin end;\n^{n} {m} procedure f; forward;",
		"procedure f; forward; ^{n} procedure g; forward; begin",
		"procedure h; ^{n} procedure f; forward;",
		"procedure f; forward; procedure f; begin end; {t}\n^{n} procedure f; forward",
	)
}

// What is wrong with a heading itself, or with any token, is told ahead of what is wrong of its name.
func TestFaultsAheadOfThoseOfNames(t *testing.T) {
	wantUnreadBehind(t, "program p; ", api.ErrToken,
		"procedure f; begin end; procedure f(^)",
		"procedure f; begin end; procedure f ^begin",
		"{n} procedure f(a : ^r); forward;",
		"procedure f; forward; function f ^; forward;",
		"procedure f; forward; procedure f; begin ^until",
		"{n} procedure f; var ^",
	)
	wantUnreadBehind(t, "program p; ", api.ErrByte,
		"procedure f; forward; begin ^?",
	)
}

// headings are ways to begin a routine of a name; no two are the same.
var headings = []string{"procedure @;", "procedure @(a : char);", "procedure @(var a : char);", "procedure @(b : char);", "procedure @(a : char; b : char);", "function @ : char;", "function @ : integer;", "function @(a : char) : char;"}

// entry is a heading or a routine of a list.
type entry struct {
	name    string
	heading int
	forward bool
	ahead   int // comments ahead of it
	begin   int // comments ahead of its begin
	inner   []entry
}

func randomEntries(rnd *rand.Rand, deep int) (l []entry) {
	for range rnd.Intn(6) {
		e := entry{name: string(rune('f' + rnd.Intn(4))), forward: rnd.Intn(3) == 0}
		if rnd.Intn(4) == 0 {
			e.heading = rnd.Intn(len(headings))
		}
		if rnd.Intn(25) == 0 || !e.forward && rnd.Intn(3) == 0 {
			e.ahead = 1 + rnd.Intn(2)
		}
		if !e.forward && deep < 3 && rnd.Intn(2) == 0 {
			e.inner = randomEntries(rnd, deep+1)
		}
		if rnd.Intn(30) == 0 {
			e.begin = 1 + rnd.Intn(2)
		}
		l = append(l, e)
	}
	return l
}

// modelOfEntries writes a list down and judges it by its rules one by one; the place is that in the text as it is written.
type modelOfEntries struct {
	out  strings.Builder
	code api.Errno
	at   int
}

func (m *modelOfEntries) fault(code api.Errno, at int) {
	if m.code == api.OK {
		m.code, m.at = code, at
	}
}

func (m *modelOfEntries) list(l []entry) (kept []entry) {
	at := make([]int, len(l))
	for i, e := range l {
		m.out.WriteString("\n")
		comment := m.out.Len()
		m.out.WriteString(strings.Repeat("{n} ", e.ahead))
		parts := strings.Split(headings[e.heading], "@")
		m.out.WriteString(parts[0])
		at[i] = m.out.Len()
		m.out.WriteString(e.name + parts[1])
		if e.forward {
			m.out.WriteString(" forward;")
			if e.ahead > 0 {
				m.fault(api.ErrPlace, comment)
			}
			if slices.ContainsFunc(l[:i], func(o entry) bool { return o.name == e.name }) {
				m.fault(api.ErrTwice, at[i])
			}
			continue
		}
		for _, o := range l[:i] {
			if o.name == e.name && !o.forward {
				m.fault(api.ErrTwice, at[i])
			}
		}
		for _, o := range l[:i] {
			if o.name == e.name && o.heading != e.heading {
				m.fault(api.ErrType, at[i])
			}
		}
		e.inner = m.list(e.inner)
		m.out.WriteString("\n")
		if e.begin > 0 {
			m.fault(api.ErrPlace, m.out.Len())
		}
		m.out.WriteString(strings.Repeat("{m}\n", e.begin) + "begin end; ")
		kept = append(kept, e)
	}
	for i, e := range l {
		if e.forward && !slices.ContainsFunc(l, func(o entry) bool { return o.name == e.name && !o.forward }) {
			m.fault(api.ErrNone, at[i])
		}
	}
	return kept
}

func sameEntries(kept []entry, l []api.Routine) bool {
	return slices.EqualFunc(kept, l, func(e entry, r api.Routine) bool {
		function := strings.HasPrefix(headings[e.heading], "function")
		params := strings.Count(headings[e.heading], ":")
		if function {
			params--
		}
		return e.name == r.Name && function == (r.Result != 0) && params == len(r.Params) && e.ahead == len(r.Before) && sameEntries(e.inner, r.Inner)
	})
}

func TestModelOfForwardHeadings(t *testing.T) {
	rnd := rand.New(rand.NewSource(10))
	told := map[api.Errno]int{}
	for range 60000 {
		m := &modelOfEntries{}
		m.out.WriteString("program p;")
		kept := m.list(randomEntries(rnd, 1))
		s := m.out.String() + "\n{m} begin end."
		p, d := Read(s)
		want := api.Diag{}
		if m.code != api.OK {
			want = api.Diag{Code: m.code, Pos: text.At(s, m.at)}
		}
		if d != want || m.code == api.OK && !sameEntries(kept, p.Routines) || m.code != api.OK && !tree.Same(p, api.Program{}) {
			t.Fatalf("%s\n%v, want %v", s, d, want)
		}
		if m.code == api.OK && (tree.Check(api.Pas, p) != api.OK || len(Items(s)) != itemsOf(p)) {
			t.Fatal(s)
		}
		told[m.code]++
	}
	for _, code := range []api.Errno{api.OK, api.ErrPlace, api.ErrTwice, api.ErrType, api.ErrNone} {
		if told[code] < 500 {
			t.Fatalf("%d: %d times", code, told[code])
		}
	}
}
