package parsecee

import (
	"math/rand"
	"reflect"
	"slices"
	"strconv"
	"strings"
	"testing"

	"pantograph/api"
	"pantograph/exprcee"
	"pantograph/note"
	"pantograph/text"
	"pantograph/tree"
)

// maker makes trees that are right of Cee, at random.
type maker struct {
	*rand.Rand
	notes bool // with comments
}

func (m maker) name() string {
	return []string{"a", "b", "c", "f", "g", "x1", "y_", "mains", "integer", "begin", strings.Repeat("z", api.MaxName)}[m.Intn(11)]
}

func (m maker) comments() (l []string) {
	for m.notes && m.Intn(4) == 0 {
		l = append(l, []string{"", "a", "b*/", `\`, "x\ny", "int", "main {", " */ \\ /*"}[m.Intn(8)])
	}
	return l
}

func (m maker) marks() api.Marks { return api.Marks{Before: m.comments(), Trail: m.comments()} }

func several[T any](m maker, least, most int, one func() T) (l []T) {
	for range least + m.Intn(most-least+1) {
		l = append(l, one())
	}
	return l
}

func (m maker) scalar() int { return api.KindInt + m.Intn(3) }

func (m maker) anyType() api.Type {
	switch m.Intn(3) {
	case 0:
		return api.Type{Kind: api.KindRec, Name: m.name()}
	case 1:
		return api.Type{Kind: m.scalar(), Size: 1 + m.Intn(api.MaxSize)}
	}
	return api.Type{Kind: m.scalar()}
}

func (m maker) place() api.Expr {
	switch m.Intn(3) {
	case 0:
		return api.Expr{Op: api.ExIndex, Name: m.name(), L: []api.Expr{m.expr(2)}}
	case 1:
		return api.Expr{Op: api.ExField, Name: m.name(), Field: m.name()}
	}
	return api.Expr{Op: api.ExVar, Name: m.name()}
}

// parts is a routine's name.
func (m maker) parts() string {
	l := several(m, 1, 3, m.name)
	return strings.Join(l, "$")
}

func (m maker) call(deep int) api.Expr {
	e := api.Expr{Op: api.ExCall, Name: m.parts(), L: several(m, 0, 3, func() api.Expr { return m.expr(deep - 1) })}
	for m.Intn(3) == 0 {
		e.L = append(e.L, up(m.name()))
	}
	return e
}

func (m maker) expr(deep int) api.Expr {
	switch k := m.Intn(8); {
	case deep <= 0 || k == 0:
		return api.Expr{Op: []int{api.ExInt, api.ExBool, api.ExChar}[m.Intn(3)], N: int64(m.Intn(2))}
	case k == 1:
		return m.call(deep)
	case k == 2:
		return op([]int{api.ExNeg, api.ExNot}[m.Intn(2)], m.expr(deep-1))
	case k <= 4:
		return m.place()
	}
	return op(api.ExMul+m.Intn(api.ExGe-api.ExMul+1), m.expr(deep-1), m.expr(deep-1))
}

func (m maker) body(deep int) []api.Stmt {
	if deep > 3 {
		return nil
	}
	return several(m, 0, 3, func() api.Stmt { return m.stmt(deep) })
}

func (m maker) stmt(deep int) api.Stmt {
	s := api.Stmt{Marks: m.marks(), Op: api.StSet + m.Intn(9), E: []api.Expr{m.expr(3)}}
	switch s.Op {
	case api.StSet:
		s.P = m.place()
	case api.StCall:
		s.E[0] = m.call(3)
	case api.StRead:
		s.P, s.E = m.place(), nil
	case api.StReturn:
		s.E = s.E[:m.Intn(2)]
	case api.StFor:
		s.Name, s.Down, s.E = m.name(), m.Intn(2) == 0, append(s.E, m.expr(2))
	}
	if s.Op >= api.StIf && s.Op <= api.StFor {
		s.Body, s.End = m.body(deep+1), m.comments()
	}
	if s.Op == api.StIf && m.Intn(2) == 0 {
		s.More, s.Else, s.End2 = true, m.body(deep+1), m.comments()
	}
	return s
}

func (m maker) variable() api.Var {
	return api.Var{Marks: m.marks(), Name: m.name(), T: m.anyType()}
}

func (m maker) params() []api.Param {
	l := several(m, 0, 2, func() api.Param {
		if m.Intn(2) == 0 {
			return api.Param{Name: m.name(), T: api.Type{Kind: m.scalar()}}
		}
		return api.Param{Name: m.name(), T: m.anyType(), Mode: api.ByRef}
	})
	return append(l, several(m, 0, 2, func() api.Param { return api.Param{Name: m.name(), T: m.anyType(), Mode: api.ByUp} })...)
}

func (m maker) routines() (l []api.Routine) {
	for i := range m.Intn(4) {
		r := api.Routine{Marks: m.marks(), Name: m.parts() + "$r" + strconv.Itoa(i), Result: m.Intn(2) * m.scalar(), Params: m.params(), Vars: several(m, 0, 2, m.variable), Body: m.body(1), End: m.comments()}
		if m.Intn(2) == 0 {
			r.Name = "r" + strconv.Itoa(i)
		}
		l = append(l, r)
	}
	return l
}

func (m maker) record() api.Rec {
	field := func() api.Field { return api.Field{Marks: m.marks(), Name: m.name(), Kind: m.scalar()} }
	return api.Rec{Marks: m.marks(), Name: m.name(), Fields: several(m, 1, 3, field), End: m.comments()}
}

func (m maker) program() api.Program {
	return api.Program{Name: m.name(), Before: m.comments(), Mid: m.comments(), After: m.comments(), End: m.comments(),
		Recs: several(m, 0, 2, m.record), Vars: several(m, 0, 2, m.variable), Routines: m.routines(), Body: m.body(1)}
}

// writer writes a tree down by the chapter's grammar, with blanks at random, and keeps where its items begin.
type writer struct {
	*rand.Rand
	forward bool // with headings that stand ahead, at random
	out     strings.Builder
	items   []int
	trailed bool // a comment in this line would trail
}

func (w *writer) blank() {
	b := []string{" ", "  ", "\t", "\n", "\r\n  ", "\n\n"}[w.Intn(6)]
	w.out.WriteString(b)
	w.trailed = w.trailed && !strings.Contains(b, "\n")
}

func (w *writer) put(tokens ...string) {
	for _, s := range tokens {
		w.blank()
		w.out.WriteString(s)
		w.trailed = false
	}
}

func printed(e api.Expr) string {
	s, code := exprcee.Print(e)
	if code != api.OK {
		panic(s)
	}
	return s
}

func (w *writer) comments(l []string) {
	for _, s := range l {
		w.blank()
		if w.trailed {
			w.out.WriteString("\n")
			w.trailed = false
		}
		form, _ := note.Print(api.Cee, s)
		w.out.WriteString(form)
	}
}

// trail are the comments right behind what has a slot for them.
func (w *writer) trail(l []string) {
	for _, s := range l {
		form, _ := note.Print(api.Cee, s)
		w.out.WriteString([]string{"", " ", "\t", "\r"}[w.Intn(4)] + form)
	}
	w.trailed = true
}

// begin is the beginning of an item.
func (w *writer) begin(first string) {
	w.put(first)
	w.items = append(w.items, w.out.Len()-len(first))
}

// typed is something of that type and name; mark stands between them.
func typed(t api.Type, mark, name string) []string {
	l := []string{t.Name}
	if t.Kind != api.KindRec {
		l[0] = kindWord(t.Kind)
	}
	if mark != "" {
		l = append(l, mark)
	}
	l = append(l, name)
	if t.Size > 0 {
		l = append(l, "[", strconv.Itoa(t.Size), "]")
	}
	return l
}

func kindWord(kind int) string {
	return [...]string{"void", api.KindInt: "int", api.KindBool: "bool", api.KindChar: "char"}[kind]
}

func (w *writer) vars(l []api.Var) {
	for _, v := range l {
		w.comments(v.Before)
		text := typed(v.T, "", v.Name)
		w.begin(text[0])
		w.put(append(text[1:], ";")...)
		w.trail(v.Trail)
	}
}

// heading is all of it but its first word.
func (w *writer) heading(r api.Routine) {
	w.put(r.Name, "(")
	for i, p := range r.Params {
		if i > 0 {
			w.put(",")
		}
		if p.Mode == api.ByUp {
			w.put("up")
		}
		w.put(typed(p.T, map[int]string{api.ByRef: "&", api.ByUp: "&"}[p.Mode], p.Name)...)
	}
	w.put(")")
}

func (w *writer) routines(l []api.Routine) {
	ahead := map[string]bool{}
	for i, r := range l {
		for _, later := range l[i:] {
			if w.forward && !ahead[later.Name] && w.Intn(4) == 0 {
				ahead[later.Name] = true
				w.put(kindWord(later.Result))
				w.heading(later)
				w.put(";")
			}
		}
		w.comments(r.Before)
		w.begin(kindWord(r.Result))
		w.heading(r)
		w.put("{")
		w.vars(r.Vars)
		w.body(r.Body, r.End)
		w.put("}")
		w.trail(r.Trail)
	}
}

func (w *writer) body(l []api.Stmt, end []string) {
	for _, s := range l {
		w.comments(s.Before)
		w.stmt(s)
		w.trail(s.Trail)
	}
	w.comments(end)
}

func (w *writer) block(l []api.Stmt, end []string) {
	w.put("{")
	w.body(l, end)
	w.put("}")
}

func (w *writer) stmt(s api.Stmt) {
	switch s.Op {
	case api.StSet:
		w.begin(printed(s.P))
		w.put("=", printed(s.E[0]), ";")
	case api.StCall:
		w.begin(printed(s.E[0]))
		w.put(";")
	case api.StIf, api.StWhile:
		w.begin([]string{"if", "while"}[s.Op-api.StIf])
		w.put("(", printed(s.E[0]), ")")
		w.block(s.Body, s.End)
		if s.More {
			w.put("else")
			w.block(s.Else, s.End2)
		}
	case api.StRepeat:
		w.begin("do")
		w.block(s.Body, s.End)
		w.put("until", "(", printed(s.E[0]), ")", ";")
	case api.StFor:
		w.begin("for")
		w.put("(", s.Name, "=", printed(s.E[0]), map[bool]string{false: "to", true: "downto"}[s.Down], printed(s.E[1]), ")")
		w.block(s.Body, s.End)
	case api.StRead:
		w.begin("get")
		w.put("(", printed(s.P), ")", ";")
	case api.StWrite:
		w.begin("put")
		w.put("(", printed(s.E[0]), ")", ";")
	case api.StReturn:
		w.begin("return")
		for _, e := range s.E {
			w.put(printed(e))
		}
		w.put(";")
	}
}

func (w *writer) program(p api.Program) string {
	w.comments(p.Before)
	w.put("program", p.Name, ";")
	for _, r := range p.Recs {
		w.comments(r.Before)
		w.begin("struct")
		w.put(r.Name, "{")
		for _, f := range r.Fields {
			w.comments(f.Before)
			w.put(kindWord(f.Kind), f.Name, ";")
			w.trail(f.Trail)
		}
		w.comments(r.End)
		w.put("}", ";")
		w.trail(r.Trail)
	}
	w.vars(p.Vars)
	w.routines(p.Routines)
	w.comments(p.Mid)
	w.put("main")
	w.block(p.Body, p.End)
	w.comments(p.After)
	w.blank()
	return w.out.String()
}

// TestRandomPrograms is P11.1, P11.2 and P11.3 of programs that are made as trees first.
func TestRandomPrograms(t *testing.T) {
	rnd := rand.New(rand.NewSource(111))
	for range 2500 {
		p := maker{rnd, rnd.Intn(2) == 0}.program()
		w := &writer{Rand: rnd, forward: true}
		s := w.program(p)
		if len(s) > api.MaxText {
			continue
		}
		wantRead(t, s, p)
		var want []api.Pos
		for _, at := range w.items {
			want = append(want, text.At(s, at))
		}
		if got := Items(s); !slices.Equal(got, want) {
			t.Fatalf("Items(%s) = %v, want %v", s, got, want)
		}
	}
}

func TestItems(t *testing.T) {
	for _, s := range []string{
		"program p; main { }",
		"/*a*/ program p; /*b*/ main { /*c*/ } /*d*/",
		"program p; /*a*/ ^struct r { /*f*/ char x; /*g*/ }; /*t*/\n^r a; /*h*/ /*i*/\n^char b[2]; main { }",
		"program p; ^void f() { } /*t*/ ^char g() { } main { }",
		"program p; ^int h; void f(); ^void g() { } /*b*/ ^void f() { ^char x; /*n*/ ^r y; ^put(1); } char h$k(); void i(); ^char h$k() { ^return; /*n*/ ^f(); } ^void i() { ^y = 1; } main { /*m*/ ^g(); }",
		"program p; main { ^a = 1; ^f(1); ^if (a) { ^put(1); } /*t*/ ^if (a) { ^b = 1; /*n*/ } else { /*m*/\n^get(a); ^return; } ^while (a) { ^do { ^return; } until (b); } ^for (k = 1 to 2) { ^for (l = 2 downto 1) { ^f(g()); } } }",
		"program p;\n\n  ^char a;\n\t/*n*/\n^r b;\nmain {\r\n ^a[1] = 2;\n/*n*/ /*m*/\n\n ^ a.b = 1; }",
	} {
		var want []api.Pos
		plain := strings.ReplaceAll(s, "^", "")
		for i := range s {
			if s[i] == '^' {
				rest := strings.ReplaceAll(s[i:], "^", "")
				want = append(want, text.At(plain, len(plain)-len(strings.TrimLeft(rest, " "))))
			}
		}
		if got := Items(plain); !slices.Equal(got, want) {
			t.Fatalf("Items(%s) = %v, want %v", plain, got, want)
		}
		p, d := Read(plain)
		if d != (api.Diag{}) || itemsOf(p) != len(want) {
			t.Fatal(plain, d, itemsOf(p))
		}
	}
	for _, s := range []string{"", "program p; char a; main { put(1); ", "program p; main { put(1); } x", "program p; void f(); main { }", "program p; main { } ?", "\x00", "program p; int a; main { f$up(); }"} {
		if l := Items(s); len(l) != 0 {
			t.Fatal(s, l)
		}
	}
}

// rooms are the pieces of memory of all lists in a value, with the room behind their length.
func rooms(v reflect.Value, out [][2]uintptr) [][2]uintptr {
	switch v.Kind() {
	case reflect.Struct:
		for i := range v.NumField() {
			out = rooms(v.Field(i), out)
		}
	case reflect.Slice:
		if v.Cap() > 0 {
			out = append(out, [2]uintptr{v.Pointer(), v.Pointer() + uintptr(v.Cap())*v.Type().Elem().Size()})
		}
		for i := range v.Len() {
			out = rooms(v.Index(i), out)
		}
	}
	return out
}

// What is answered is memory of its own: no two lists share any, of one answer or of two.
func TestAnswersAreNewMemory(t *testing.T) {
	rnd := rand.New(rand.NewSource(112))
	for range 50 {
		p := maker{rnd, true}.program()
		s := (&writer{Rand: rnd, forward: true}).program(p)
		first, _ := Read(s)
		second, _ := Read(s)
		l := rooms(reflect.ValueOf(Items(s)), nil)
		l = rooms(reflect.ValueOf(Items(s)), l)
		l = rooms(reflect.ValueOf(first), l)
		l = rooms(reflect.ValueOf(second), l)
		slices.SortFunc(l, func(a, b [2]uintptr) int { return int(int64(a[0]) - int64(b[0])) })
		for i := 1; i < len(l); i++ {
			if l[i-1][1] > l[i][0] {
				t.Fatalf("%s: two lists share memory", s)
			}
		}
		if !tree.Same(first, p) || !tree.Same(second, p) {
			t.Fatal(s)
		}
	}
}

// Any bytes: there is a tree that is right, or one Diag whose place lies within them; items only with a tree.
func TestAnyBytes(t *testing.T) {
	rnd := rand.New(rand.NewSource(113))
	for range 3000 {
		s := (&writer{Rand: rnd, forward: true}).program(maker{rnd, true}.program())
		for range 1 + rnd.Intn(3) {
			at := rnd.Intn(len(s))
			switch rnd.Intn(4) {
			case 0:
				s = s[:at] + string([]byte{byte(rnd.Intn(256))}) + s[at:]
			case 1:
				s = s[:at] + s[at+1:] + " "
			case 2:
				s = s[:at] + s[rnd.Intn(at+1):]
			case 3:
				s = s[:at+1]
			}
		}
		p, d := Read(s)
		again, d2 := Read(s)
		items := Items(s)
		if d2 != d || !tree.Same(p, again) {
			t.Fatalf("%q: another answer", s)
		}
		if d.Code == api.OK {
			if d != (api.Diag{}) || tree.Check(api.Cee, p) != api.OK || len(items) != itemsOf(p) {
				t.Fatalf("%q: %v, %d", s, d, len(items))
			}
			continue
		}
		if d.Pos != text.At(s, d.Pos.At) || !tree.Same(p, api.Program{}) || len(items) != 0 {
			t.Fatalf("%q: %v", s, d)
		}
	}
}
