package parsepas

import (
	"math/rand"
	"reflect"
	"slices"
	"strconv"
	"strings"
	"testing"

	"pantograph/api"
	"pantograph/exprpas"
	"pantograph/note"
	"pantograph/text"
	"pantograph/tree"
)

// maker makes trees that are right of Pas, at random.
type maker struct {
	*rand.Rand
	notes bool // with comments
}

func (m maker) name() string {
	return []string{"a", "b", "c", "f", "g", "x1", "y_", "forwards", "int", "main", strings.Repeat("z", api.MaxName)}[m.Intn(11)]
}

func (m maker) comments() (l []string) {
	for m.notes && m.Intn(4) == 0 {
		l = append(l, []string{"", "a", "b}", `\`, "x\ny", "integer", "begin", " } \\ {"}[m.Intn(8)])
	}
	return l
}

func (m maker) marks() api.Marks { return api.Marks{Before: m.comments(), Trail: m.comments()} }

func several[T any](m maker, least, most int, one func() T) (l []T) {
	for range least + m.Intn(most-least+1) {
		l = append(l, one())
	}
	return l
}

func (m maker) scalar() int { return api.KindInt + m.Intn(3) }

func (m maker) anyType() api.Type {
	switch m.Intn(3) {
	case 0:
		return api.Type{Kind: api.KindRec, Name: m.name()}
	case 1:
		return api.Type{Kind: m.scalar(), Size: 1 + m.Intn(api.MaxSize)}
	}
	return api.Type{Kind: m.scalar()}
}

func (m maker) place() api.Expr {
	switch m.Intn(3) {
	case 0:
		return api.Expr{Op: api.ExIndex, Name: m.name(), L: []api.Expr{m.expr(2)}}
	case 1:
		return api.Expr{Op: api.ExField, Name: m.name(), Field: m.name()}
	}
	return api.Expr{Op: api.ExVar, Name: m.name()}
}

func (m maker) call(deep int) api.Expr {
	return api.Expr{Op: api.ExCall, Name: m.name(), L: several(m, 0, 3, func() api.Expr { return m.expr(deep - 1) })}
}

func (m maker) expr(deep int) api.Expr {
	switch k := m.Intn(8); {
	case deep <= 0 || k == 0:
		return api.Expr{Op: []int{api.ExInt, api.ExBool, api.ExChar}[m.Intn(3)], N: int64(m.Intn(2))}
	case k == 1:
		return m.call(deep)
	case k == 2:
		return op([]int{api.ExNeg, api.ExNot}[m.Intn(2)], m.expr(deep-1))
	case k <= 4:
		return m.place()
	}
	return op(api.ExMul+m.Intn(api.ExGe-api.ExMul+1), m.expr(deep-1), m.expr(deep-1))
}

func (m maker) body(deep int) []api.Stmt {
	if deep > 3 {
		return nil
	}
	return several(m, 0, 3, func() api.Stmt { return m.stmt(deep) })
}

func (m maker) stmt(deep int) api.Stmt {
	s := api.Stmt{Marks: m.marks(), Op: api.StSet + m.Intn(9), E: []api.Expr{m.expr(3)}}
	switch s.Op {
	case api.StSet:
		s.P = m.place()
	case api.StCall:
		s.E[0] = m.call(3)
	case api.StRead:
		s.P, s.E = m.place(), nil
	case api.StReturn:
		s.E = s.E[:m.Intn(2)]
	case api.StFor:
		s.Name, s.Down, s.E = m.name(), m.Intn(2) == 0, append(s.E, m.expr(2))
	}
	if s.Op >= api.StIf && s.Op <= api.StFor {
		s.Body, s.End = m.body(deep+1), m.comments()
	}
	if s.Op == api.StIf && m.Intn(2) == 0 {
		s.More, s.Else, s.End2 = true, m.body(deep+1), m.comments()
	}
	return s
}

func (m maker) variable() api.Var {
	return api.Var{Marks: m.marks(), Name: m.name(), T: m.anyType()}
}

func (m maker) param() api.Param {
	if m.Intn(2) == 0 {
		return api.Param{Name: m.name(), T: api.Type{Kind: m.scalar()}}
	}
	return api.Param{Name: m.name(), T: m.anyType(), Mode: api.ByRef}
}

func (m maker) routines(deep int) (l []api.Routine) {
	if deep > 3 {
		return nil
	}
	for i := range m.Intn(4) {
		r := api.Routine{Marks: m.marks(), Name: "r" + strconv.Itoa(i), Result: m.Intn(2) * m.scalar(), Params: several(m, 0, 2, m.param), Vars: several(m, 0, 2, m.variable)}
		r.Inner, r.Body, r.End = m.routines(deep+1), m.body(1), m.comments()
		l = append(l, r)
	}
	return l
}

func (m maker) record() api.Rec {
	field := func() api.Field { return api.Field{Marks: m.marks(), Name: m.name(), Kind: m.scalar()} }
	return api.Rec{Marks: m.marks(), Name: m.name(), Fields: several(m, 1, 3, field), End: m.comments()}
}

func (m maker) program() api.Program {
	return api.Program{Name: m.name(), Before: m.comments(), Mid: m.comments(), After: m.comments(), End: m.comments(),
		Recs: several(m, 0, 2, m.record), Vars: several(m, 0, 2, m.variable), Routines: m.routines(1), Body: m.body(1)}
}

// writer writes a tree down by the chapter's grammar, with blanks and great letters at random, and keeps where its items begin.
type writer struct {
	*rand.Rand
	forward bool // with headings that stand ahead, at random
	out     strings.Builder
	items   []int
	trailed bool // a comment in this line would trail
}

func (w *writer) blank() {
	b := []string{" ", "  ", "\t", "\n", "\r\n  ", "\n\n"}[w.Intn(6)]
	w.out.WriteString(b)
	w.trailed = w.trailed && !strings.Contains(b, "\n")
}

func (w *writer) put(tokens ...string) {
	for _, s := range tokens {
		w.blank()
		if w.Intn(5) == 0 {
			s = strings.ToUpper(s)
		}
		w.out.WriteString(s)
		w.trailed = false
	}
}

func (w *writer) expr(e api.Expr) {
	s, code := exprpas.Print(e)
	if code != api.OK {
		panic(s)
	}
	w.blank()
	w.out.WriteString(s)
	w.trailed = false
}

func (w *writer) comments(l []string) {
	for _, s := range l {
		w.blank()
		if w.trailed {
			w.out.WriteString("\n")
			w.trailed = false
		}
		form, _ := note.Print(api.Pas, s)
		w.out.WriteString(form)
	}
}

// trail is the end of what has a slot for trailing comments.
func (w *writer) trail(l []string) {
	w.put(";")
	for _, s := range l {
		form, _ := note.Print(api.Pas, s)
		w.out.WriteString([]string{"", " ", "\t", "\r"}[w.Intn(4)] + form)
	}
	w.trailed = true
}

// begin is the first word of an item.
func (w *writer) begin(word string) {
	w.put(word)
	w.items = append(w.items, w.out.Len()-len(word))
}

func kindWord(kind int) string {
	return [...]string{api.KindInt: "integer", api.KindBool: "boolean", api.KindChar: "char"}[kind]
}

func (w *writer) anyType(t api.Type) {
	switch {
	case t.Kind == api.KindRec:
		w.put(t.Name)
	case t.Size > 0:
		w.put("array", "[", strconv.Itoa(t.Size), "]", "of", kindWord(t.Kind))
	default:
		w.put(kindWord(t.Kind))
	}
}

func (w *writer) vars(l []api.Var) {
	for _, v := range l {
		w.comments(v.Before)
		w.begin("var")
		w.put(v.Name, ":")
		w.anyType(v.T)
		w.trail(v.Trail)
	}
}

func (w *writer) heading(r api.Routine) {
	w.put(r.Name)
	for i, p := range r.Params {
		w.put([]string{"(", ";"}[min(i, 1)])
		if p.Mode == api.ByRef {
			w.put("var")
		}
		w.put(p.Name, ":")
		w.anyType(p.T)
	}
	if len(r.Params) > 0 {
		w.put(")")
	}
	if r.Result != 0 {
		w.put(":", kindWord(r.Result))
	}
	w.put(";")
}

func routineWord(r api.Routine) string {
	if r.Result != 0 {
		return "function"
	}
	return "procedure"
}

func (w *writer) routines(l []api.Routine) {
	ahead := map[string]bool{}
	for i, r := range l {
		for _, later := range l[i:] {
			if w.forward && !ahead[later.Name] && w.Intn(4) == 0 {
				ahead[later.Name] = true
				w.put(routineWord(later))
				w.heading(later)
				w.put("forward", ";")
			}
		}
		w.comments(r.Before)
		w.begin(routineWord(r))
		w.heading(r)
		w.vars(r.Vars)
		w.routines(r.Inner)
		w.put("begin")
		w.body(r.Body, r.End)
		w.put("end")
		w.trail(r.Trail)
	}
}

func (w *writer) body(l []api.Stmt, end []string) {
	for _, s := range l {
		w.comments(s.Before)
		w.stmt(s)
		w.trail(s.Trail)
	}
	w.comments(end)
}

func (w *writer) block(l []api.Stmt, end []string) {
	w.put("begin")
	w.body(l, end)
	w.put("end")
}

func (w *writer) stmt(s api.Stmt) {
	switch s.Op {
	case api.StSet, api.StCall:
		e := append([]api.Expr{s.P}, s.E...)[s.Op-api.StSet]
		w.blank()
		w.items = append(w.items, w.out.Len())
		w.expr0(e)
		if s.Op == api.StSet {
			w.put(":=")
			w.expr(s.E[0])
		}
	case api.StIf:
		w.begin("if")
		w.expr(s.E[0])
		w.put("then")
		w.block(s.Body, s.End)
		if s.More {
			w.put("else")
			w.block(s.Else, s.End2)
		}
	case api.StWhile:
		w.begin("while")
		w.expr(s.E[0])
		w.put("do")
		w.block(s.Body, s.End)
	case api.StRepeat:
		w.begin("repeat")
		w.body(s.Body, s.End)
		w.put("until")
		w.expr(s.E[0])
	case api.StFor:
		w.begin("for")
		w.put(s.Name, ":=")
		w.expr(s.E[0])
		w.put(map[bool]string{false: "to", true: "downto"}[s.Down])
		w.expr(s.E[1])
		w.put("do")
		w.block(s.Body, s.End)
	case api.StRead, api.StWrite:
		w.begin(map[int]string{api.StRead: "read", api.StWrite: "write"}[s.Op])
		w.put("(")
		w.expr(append([]api.Expr{s.P}, s.E...)[s.Op-api.StRead])
		w.put(")")
	case api.StReturn:
		w.begin("return")
		if len(s.E) > 0 {
			w.expr(s.E[0])
		}
	}
}

// expr0 is expr without a blank ahead.
func (w *writer) expr0(e api.Expr) {
	s, _ := exprpas.Print(e)
	w.out.WriteString(s)
	w.trailed = false
}

func (w *writer) program(p api.Program) string {
	w.comments(p.Before)
	w.put("program", p.Name, ";")
	for _, r := range p.Recs {
		w.comments(r.Before)
		w.begin("type")
		w.put(r.Name, "=", "record")
		for _, f := range r.Fields {
			w.comments(f.Before)
			w.put(f.Name, ":", kindWord(f.Kind))
			w.trail(f.Trail)
		}
		w.comments(r.End)
		w.put("end")
		w.trail(r.Trail)
	}
	w.vars(p.Vars)
	w.routines(p.Routines)
	w.comments(p.Mid)
	w.block(p.Body, p.End)
	w.put(".")
	w.comments(p.After)
	w.blank()
	return w.out.String()
}

// TestRandomPrograms is P10.1, P10.2 and P10.3 of programs that are made as trees first.
func TestRandomPrograms(t *testing.T) {
	rnd := rand.New(rand.NewSource(101))
	for range 2500 {
		p := maker{rnd, rnd.Intn(2) == 0}.program()
		w := &writer{Rand: rnd, forward: true}
		s := w.program(p)
		if len(s) > api.MaxText {
			continue
		}
		wantRead(t, s, p)
		var want []api.Pos
		for _, at := range w.items {
			want = append(want, text.At(s, at))
		}
		if got := Items(s); !slices.Equal(got, want) {
			t.Fatalf("Items(%s) = %v, want %v", s, got, want)
		}
	}
}

func TestItems(t *testing.T) {
	for _, s := range []string{
		"program p; begin end.",
		"{a} program p; {b} begin {c} end. {d}",
		"program p; {a} ^type r = record {f} x : char; {g} end; {t}\n^var a : r; {h} {i}\n^var b : char; begin end.",
		"program p; ^procedure f; begin end; {t} ^function g : char; begin end; begin end.",
		"program p; procedure f; forward; ^procedure g; begin end; {b} ^procedure f; ^var x : char; procedure k; forward; ^procedure k; begin end; {n} ^procedure h; begin ^write(1); end; begin ^return; {n} ^f(); end; begin {m} ^g(); end.",
		"program p; begin ^a := 1; ^f(1); ^if a then begin ^write(1); end; {t} ^if a then begin ^b := 1; {n} end else begin {m}\n^read(a); ^return; end; ^while a do begin ^repeat ^return; until b; end; ^for k := 1 to 2 do begin ^for l := 2 downto 1 do begin ^f(g()); end; end; end.",
		"program p;\n\n  ^VAR a : char;\n\t{n}\n^var b : char;\nbegin\r\n ^A[1] := 2;\n{n} {m}\n\n ^ a.b := 1; end.",
	} {
		var want []api.Pos
		plain := strings.ReplaceAll(s, "^", "")
		for i := range s {
			if s[i] == '^' {
				rest := strings.ReplaceAll(s[i:], "^", "")
				want = append(want, text.At(plain, len(plain)-len(strings.TrimLeft(rest, " "))))
			}
		}
		if got := Items(plain); !slices.Equal(got, want) {
			t.Fatalf("Items(%s) = %v, want %v", plain, got, want)
		}
		p, d := Read(plain)
		if d != (api.Diag{}) || itemsOf(p) != len(want) {
			t.Fatal(plain, d, itemsOf(p))
		}
	}
	for _, s := range []string{"", "program p; var a : char; begin write(1); end", "program p; begin write(1); end. x", "program p; procedure f; forward; begin end.", "program p; begin end. ?", "\x00"} {
		if l := Items(s); len(l) != 0 {
			t.Fatal(s, l)
		}
	}
}

// rooms are the pieces of memory of all lists in a value, with the room behind their length.
func rooms(v reflect.Value, out [][2]uintptr) [][2]uintptr {
	switch v.Kind() {
	case reflect.Struct:
		for i := range v.NumField() {
			out = rooms(v.Field(i), out)
		}
	case reflect.Slice:
		if v.Cap() > 0 {
			out = append(out, [2]uintptr{v.Pointer(), v.Pointer() + uintptr(v.Cap())*v.Type().Elem().Size()})
		}
		for i := range v.Len() {
			out = rooms(v.Index(i), out)
		}
	}
	return out
}

// What is answered is memory of its own: no two lists share any, of one answer or of two.
func TestAnswersAreNewMemory(t *testing.T) {
	rnd := rand.New(rand.NewSource(102))
	for range 50 {
		p := maker{rnd, true}.program()
		s := (&writer{Rand: rnd, forward: true}).program(p)
		first, _ := Read(s)
		second, _ := Read(s)
		l := rooms(reflect.ValueOf(Items(s)), nil)
		l = rooms(reflect.ValueOf(Items(s)), l)
		l = rooms(reflect.ValueOf(first), l)
		l = rooms(reflect.ValueOf(second), l)
		slices.SortFunc(l, func(a, b [2]uintptr) int { return int(int64(a[0]) - int64(b[0])) })
		for i := 1; i < len(l); i++ {
			if l[i-1][1] > l[i][0] {
				t.Fatalf("%s: two lists share memory", s)
			}
		}
		if !tree.Same(first, p) || !tree.Same(second, p) {
			t.Fatal(s)
		}
	}
}

// Any bytes: there is a tree that is right, or one Diag whose place lies within them; items only with a tree.
func TestAnyBytes(t *testing.T) {
	rnd := rand.New(rand.NewSource(103))
	for range 3000 {
		s := (&writer{Rand: rnd, forward: true}).program(maker{rnd, true}.program())
		for range 1 + rnd.Intn(3) {
			at := rnd.Intn(len(s))
			switch rnd.Intn(4) {
			case 0:
				s = s[:at] + string([]byte{byte(rnd.Intn(256))}) + s[at:]
			case 1:
				s = s[:at] + s[at+1:] + " "
			case 2:
				s = s[:at] + s[rnd.Intn(at+1):]
			case 3:
				s = s[:at+1]
			}
		}
		p, d := Read(s)
		again, d2 := Read(s)
		items := Items(s)
		if d2 != d || !tree.Same(p, again) {
			t.Fatalf("%q: another answer", s)
		}
		if d.Code == api.OK {
			if d != (api.Diag{}) || tree.Check(api.Pas, p) != api.OK || len(items) != itemsOf(p) {
				t.Fatalf("%q: %v, %d", s, d, len(items))
			}
			continue
		}
		if d.Pos != text.At(s, d.Pos.At) || !tree.Same(p, api.Program{}) || len(items) != 0 {
			t.Fatalf("%q: %v", s, d)
		}
	}
}
