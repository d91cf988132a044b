package parsecee

import (
	"math/rand"
	"slices"
	"strings"
	"testing"

	"pantograph/api"
	"pantograph/text"
	"pantograph/tree"
)

// headings are ways to begin a routine of a name; no two are the same.
var headings = []string{"void @()", "void @(char a)", "void @(char &a)", "void @(up char &a)", "void @(char b)", "void @(char a, char b)", "char @()", "int @()", "char @(char a)"}

// entry is a declaration of a program: a heading, a routine, or (behind routines, where none may stand) a variable.
type entry struct {
	name    string
	heading int
	forward bool
	none    bool
	ahead   int // comments ahead of it
}

func randomEntries(rnd *rand.Rand) (l []entry) {
	for range rnd.Intn(7) {
		e := entry{name: []string{"f", "g", "f$g", "h"}[rnd.Intn(4)], forward: rnd.Intn(3) == 0, none: rnd.Intn(40) == 0}
		if rnd.Intn(4) == 0 {
			e.heading = rnd.Intn(len(headings))
		}
		if rnd.Intn(25) == 0 || !e.forward && rnd.Intn(3) == 0 {
			e.ahead = 1 + rnd.Intn(2)
		}
		l = append(l, e)
	}
	return l
}

// modelOfEntries writes a list down and judges it by its rules one by one; the place is that in the text as it is written.
type modelOfEntries struct {
	out  strings.Builder
	code api.Errno
	at   int
}

func (m *modelOfEntries) fault(code api.Errno, at int) {
	if m.code == api.OK {
		m.code, m.at = code, at
	}
}

// variable is one, told wrong behind its second name, once anything but variables stands ahead.
func (m *modelOfEntries) variable(e entry, first bool) {
	m.out.WriteString("r ")
	at := m.out.Len()
	m.out.WriteString(e.name)
	behind := m.out.Len()
	m.out.WriteString(";")
	switch {
	case !first:
		m.fault(api.ErrToken, behind)
	case strings.Contains(e.name, "$"):
		m.fault(api.ErrName, at)
	}
}

func (m *modelOfEntries) list(l []entry) (kept []entry) {
	at := make([]int, len(l))
	variables := 0
	for i, e := range l {
		m.out.WriteString("\n")
		comment := m.out.Len()
		m.out.WriteString(strings.Repeat("/*n*/ ", e.ahead))
		if e.none {
			m.variable(e, i == variables)
			variables++
			continue
		}
		parts := strings.Split(headings[e.heading], "@")
		m.out.WriteString(parts[0])
		at[i] = m.out.Len()
		m.out.WriteString(e.name + parts[1])
		same := func(o entry) bool { return !o.none && o.name == e.name }
		switch {
		case e.forward:
			m.out.WriteString(";")
			if e.ahead > 0 {
				m.fault(api.ErrPlace, comment)
			}
			if slices.ContainsFunc(l[:i], same) {
				m.fault(api.ErrTwice, at[i])
			}
			continue
		case slices.ContainsFunc(l[:i], func(o entry) bool { return same(o) && !o.forward }):
			m.fault(api.ErrTwice, at[i])
		case slices.ContainsFunc(l[:i], func(o entry) bool { return same(o) && o.heading != e.heading }):
			m.fault(api.ErrType, at[i])
		}
		m.out.WriteString(" { }")
		kept = append(kept, e)
	}
	for i, e := range l {
		if e.forward && !e.none && !slices.ContainsFunc(l, func(o entry) bool { return o.name == e.name && !o.forward && !o.none }) {
			m.fault(api.ErrNone, at[i])
		}
	}
	return kept
}

func sameEntries(kept []entry, l []api.Routine) bool {
	return slices.EqualFunc(kept, l, func(e entry, r api.Routine) bool {
		form := headings[e.heading]
		params := strings.Count(form, ",")
		if !strings.Contains(form, "()") {
			params++
		}
		return e.name == r.Name && strings.HasPrefix(form, "void") == (r.Result == 0) && params == len(r.Params) && e.ahead == len(r.Before)
	})
}

func TestModelOfHeadings(t *testing.T) {
	rnd := rand.New(rand.NewSource(110))
	told := map[api.Errno]int{}
	for range 60000 {
		m := &modelOfEntries{}
		m.out.WriteString("program p;")
		kept := m.list(randomEntries(rnd))
		s := m.out.String() + "\n/*m*/ main { }"
		p, d := Read(s)
		want := api.Diag{}
		if m.code != api.OK {
			want = api.Diag{Code: m.code, Pos: text.At(s, m.at)}
		}
		if d != want || m.code == api.OK && !sameEntries(kept, p.Routines) || m.code != api.OK && !tree.Same(p, api.Program{}) {
			t.Fatalf("%s\n%v, want %v", s, d, want)
		}
		if m.code == api.OK && (tree.Check(api.Cee, p) != api.OK || len(Items(s)) != itemsOf(p)) {
			t.Fatal(s)
		}
		told[m.code]++
	}
	for _, code := range []api.Errno{api.OK, api.ErrPlace, api.ErrTwice, api.ErrType, api.ErrNone, api.ErrToken, api.ErrName} {
		if told[code] < 200 {
			t.Fatalf("%d: %d times", code, told[code])
		}
	}
}
