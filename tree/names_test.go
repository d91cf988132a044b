package tree

import (
	"reflect"
	"slices"
	"strconv"
	"strings"
	"testing"

	"pantograph/api"
)

// inOrder has names at all spots, n1, n2, .. in the order that the document tells, whatever the kinds of things are.
func inOrder() (api.Program, []string) {
	var names []string
	next := func() string {
		names = append(names, "n"+strconv.Itoa(len(names)+1))
		return names[len(names)-1]
	}
	expr := func() api.Expr {
		e := api.Expr{Op: api.ExInt}
		e.Name, e.Field = next(), next()
		for range 2 {
			o := api.Expr{Op: api.ExUp}
			o.Name, o.Field = next()+"$"+next(), next()
			o.L = []api.Expr{{Name: next()}, {Field: next()}}
			e.L = append(e.L, o)
		}
		return e
	}
	var stmts func(depth int) []api.Stmt
	stmts = func(depth int) []api.Stmt {
		if depth == 0 {
			return nil
		}
		var list []api.Stmt
		for range 2 {
			s := api.Stmt{Op: api.StSet}
			s.Name = next()
			s.P = expr()
			s.E = []api.Expr{expr(), expr()}
			s.Body = stmts(depth - 1)
			s.Else = stmts(depth - 1)
			list = append(list, s)
		}
		return list
	}
	vars := func() []api.Var {
		var list []api.Var
		for range 2 {
			v := api.Var{T: api.Type{Kind: api.KindInt}}
			v.Name, v.T.Name = next(), next()
			list = append(list, v)
		}
		return list
	}
	var routines func(depth int) []api.Routine
	routines = func(depth int) []api.Routine {
		if depth == 0 {
			return nil
		}
		var list []api.Routine
		for range 2 {
			r := api.Routine{Name: next() + "$" + next()}
			for range 2 {
				v := api.Param{Mode: 7}
				v.Name, v.T.Name = next(), next()
				r.Params = append(r.Params, v)
			}
			r.Vars = vars()
			r.Inner = routines(depth - 1)
			r.Body = stmts(1)
			list = append(list, r)
		}
		return list
	}
	p := api.Program{Name: next()}
	for range 2 {
		r := api.Rec{Name: next()}
		r.Fields = []api.Field{{Name: next()}, {Name: next()}}
		p.Recs = append(p.Recs, r)
	}
	p.Vars = vars()
	p.Routines = routines(2)
	p.Body = stmts(2)
	return p, names
}

func wantNames(t *testing.T, p api.Program, want ...string) {
	t.Helper()
	if got := Names(p); !slices.Equal(got, want) {
		t.Errorf("Names: %q, want %q", got, want)
	}
}

func TestNamesByExamples(t *testing.T) {
	p := api.Program{Name: "p"}
	wantNames(t, p, "p")
	wantNames(t, Rename(p, api.Pair{Old: "p", New: "q"}), "q")
	wantNames(t, api.Program{})
	wantNames(t, program(), "p", "point", "x", "y", "other", "a", "b", "c", "d", "f", "v", "w", "z", "u", "g")
	wantNames(t, nested(), "p", "point", "x", "y", "other", "a", "b", "c", "d", "f", "v", "w", "z", "u", "h", "g", "i")
}

func TestNamesInTheirOrder(t *testing.T) {
	p, want := inOrder()
	wantNames(t, p, want...)
}

func TestNamesOnceEach(t *testing.T) {
	p, want := inOrder()
	double := p
	double.Body = append(slices.Clone(p.Body), p.Body...)
	double.Recs = append(slices.Clone(p.Recs), api.Rec{Name: "n1"}, api.Rec{Name: "n2$n3$n2"})
	wantNames(t, double, want...)
	// The place of a name is that where it stands first.
	wantNames(t, api.Program{Name: "b", Recs: []api.Rec{{Name: "a"}}, Vars: []api.Var{{Name: "b", T: api.Type{Name: "a"}}, {Name: "c"}}}, "b", "a", "c")
}

func TestNamesParts(t *testing.T) {
	for s, want := range map[string][]string{
		"": nil, "$": nil, "$$$": nil, "a": {"a"}, "a$b": {"a", "b"}, "$a": {"a"}, "a$": {"a"}, "a$$b": {"a", "b"}, "$b$$a$b$": {"b", "a"}, "a$a": {"a"},
		"A b$1": {"A b", "1"}, "\xff$end$\x00": {"\xff", "end", "\x00"}, " ": {" "},
	} {
		spots := map[string]api.Program{
			"program": {Name: s}, "record": {Recs: []api.Rec{{Name: s}}}, "field": {Recs: []api.Rec{{Fields: []api.Field{{Name: s}}}}},
			"variable": {Vars: []api.Var{{Name: s}}}, "type": {Vars: []api.Var{{T: api.Type{Name: s}}}},
			"routine": {Routines: []api.Routine{{Name: s}}}, "inner": {Routines: []api.Routine{{Inner: []api.Routine{{Name: s}}}}},
			"parameter": {Routines: []api.Routine{{Params: []api.Param{{Name: s}}}}}, "its type": {Routines: []api.Routine{{Params: []api.Param{{T: api.Type{Name: s}}}}}},
			"local": {Routines: []api.Routine{{Vars: []api.Var{{Name: s}}}}}, "local's type": {Routines: []api.Routine{{Vars: []api.Var{{T: api.Type{Name: s}}}}}},
			"statement": {Body: []api.Stmt{{Name: s}}}, "P": {Body: []api.Stmt{{P: api.Expr{Name: s}}}}, "E": {Body: []api.Stmt{{E: []api.Expr{{Name: s}}}}},
			"field of P": {Body: []api.Stmt{{P: api.Expr{Field: s}}}}, "operand": {Body: []api.Stmt{{P: api.Expr{L: []api.Expr{{Name: s}}}}}},
			"in else": {Routines: []api.Routine{{Body: []api.Stmt{{Else: []api.Stmt{{Name: s}}}}}}},
		}
		for where, p := range spots {
			if got := Names(p); !slices.Equal(got, want) {
				t.Errorf("%s %q: %q, want %q", where, s, got, want)
			}
		}
	}
}

func TestCommentsAreNoNames(t *testing.T) {
	p := api.Program{Name: "p", Before: []string{"a"}, Body: []api.Stmt{{Marks: api.Marks{Trail: []string{"b"}}, End: []string{"a$b"}}}}
	wantNames(t, p, "p")
	q := Rename(p, api.Pair{Old: "a", New: "x"}, api.Pair{Old: "b", New: "y"})
	if !reflect.DeepEqual(p, q) {
		t.Errorf("%v", q)
	}
}

// renamed says what Rename answers by turning each text that is a name, wherever it stands.
func renamed(p api.Program, by []api.Pair) api.Program {
	q := copyOf(p)
	eachValue(&q, func(path string, v reflect.Value) {
		if v.Kind() != reflect.String || !strings.HasSuffix(path, "Name") && !strings.HasSuffix(path, "].Field") && !strings.HasSuffix(path, ".P.Field") {
			return
		}
		split := strings.Split(v.String(), "$")
		for i, part := range split {
			at := slices.IndexFunc(by, func(pair api.Pair) bool { return pair.Old == part })
			if part != "" && at >= 0 {
				split[i] = by[at].New
			}
		}
		v.SetString(strings.Join(split, "$"))
	})
	return q
}

func wantRenamed(t *testing.T, p api.Program, by ...api.Pair) {
	t.Helper()
	before, pairs := copyOf(p), slices.Clone(by)
	got := Rename(p, by...)
	if want := renamed(p, by); !reflect.DeepEqual(got, want) || !Same(got, want) {
		t.Errorf("Rename by %q: %v, want %v", by, got, want)
	}
	if !reflect.DeepEqual(p, before) || !slices.Equal(by, pairs) {
		t.Errorf("Rename by %q changed what it was handed", by)
	}
}

func TestRenameOfEachName(t *testing.T) {
	p, names := inOrder()
	wantRenamed(t, p)
	for i, name := range names {
		by := api.Pair{Old: name, New: "x"}
		wantRenamed(t, p, by)
		want := slices.Clone(names)
		want[i] = "x"
		wantNames(t, Rename(p, by), want...)
	}
}

func TestRenameByManyPairs(t *testing.T) {
	for _, p := range []api.Program{{}, {Name: "p"}, program(), nested(), lifted(), everywhere()} {
		wantRenamed(t, p)
		wantRenamed(t, p, []api.Pair{}...)
		wantRenamed(t, p, api.Pair{Old: "a", New: "b"})
		wantRenamed(t, p, api.Pair{Old: "a", New: "b"}, api.Pair{Old: "b", New: "a"})
		wantRenamed(t, p, api.Pair{Old: "a", New: "b"}, api.Pair{Old: "b", New: "c"}, api.Pair{Old: "c", New: "d"}, api.Pair{Old: "d", New: "a"})
		wantRenamed(t, p, api.Pair{Old: "x", New: "y"}, api.Pair{Old: "x", New: "z"}, api.Pair{Old: "y", New: "x"})
		wantRenamed(t, p, api.Pair{Old: "f", New: "f"}, api.Pair{Old: "f", New: "g"})
		wantRenamed(t, p, api.Pair{Old: "none", New: "x"}, api.Pair{Old: "F", New: "y"}, api.Pair{Old: "poin", New: "z"}, api.Pair{Old: "point ", New: "w"})
		wantRenamed(t, p, api.Pair{Old: "h", New: ""}, api.Pair{Old: "a", New: "\xff $"}, api.Pair{Old: "", New: "x"})
		wantRenamed(t, p, api.Pair{}, api.Pair{Old: "$", New: "x"}, api.Pair{Old: "f$h", New: "y"}, api.Pair{Old: "f$h$f", New: "z"})
	}
}

func TestRenameOfParts(t *testing.T) {
	by := []api.Pair{{Old: "f", New: "g"}, {Old: "g", New: "h"}, {Old: "", New: "no"}, {Old: "f", New: "no"}, {Old: "f$g", New: "no"}, {Old: "w", New: ""}, {Old: "v", New: "a$f"}, {Old: "A b", New: "ok"}, {Old: "\xff", New: "f"}}
	for s, want := range map[string]string{
		"f": "g", "g": "h", "h": "h", "ff": "ff", "": "", "$": "$", "f$g": "g$h", "g$f$x$f": "h$g$x$g", "$f": "$g", "f$": "g$", "f$$g": "g$$h", "$$": "$$",
		"w": "", "f$w": "g$", "w$w": "$", "v": "a$f", "v$f": "a$f$g", "A b": "ok", "A b$f": "ok$g", "\xff": "f", "F": "F", " f": " f", "f ": "f ",
	} {
		p := api.Program{Name: s, Routines: []api.Routine{{Name: s, Body: []api.Stmt{{Name: s, E: []api.Expr{{Name: s, Field: s, L: []api.Expr{{Name: s}}}}}}}}}
		wantRenamed(t, p, by...)
		if q := Rename(p, by...); q.Name != want || q.Routines[0].Name != want || q.Routines[0].Body[0].Name != want || q.Routines[0].Body[0].E[0].L[0].Name != want {
			t.Errorf("%q: %v, want %q", s, q, want)
		}
	}
}

func TestRenameOfNilAndEmptyLists(t *testing.T) {
	if q := Rename(api.Program{}); !reflect.DeepEqual(q, api.Program{}) {
		t.Errorf("%v", q)
	}
	p := everywhere()
	eachValue(&p, func(path string, v reflect.Value) {
		if v.Kind() == reflect.Slice && v.IsNil() {
			v.Set(reflect.MakeSlice(v.Type(), 0, 2))
		}
	})
	if q := Rename(p); !Same(p, q) {
		t.Errorf("%v", q)
	}
}

// roomy gives each list of p room behind its length, and hands over all of these rooms.
func roomy(p api.Program) (api.Program, []reflect.Value) {
	q := copyOf(p)
	var rooms []reflect.Value
	eachValue(&q, func(path string, v reflect.Value) {
		if v.Kind() != reflect.Slice {
			return
		}
		n := v.Len()
		room := reflect.MakeSlice(v.Type(), n+2, n+2)
		reflect.Copy(room, v)
		if room.Type().Elem().Kind() == reflect.String {
			room.Index(n).SetString("a")
		}
		v.Set(room.Slice(0, n))
		rooms = append(rooms, room)
	})
	return q, rooms
}

// memory is each place in which a list of p stands, and how often.
func memory(p *api.Program) map[uintptr]int {
	all := map[uintptr]int{}
	eachValue(p, func(path string, v reflect.Value) {
		if v.Kind() == reflect.Slice && v.Cap() > 0 {
			all[v.Pointer()]++
		}
	})
	return all
}

func TestRenameSharesNoMemory(t *testing.T) {
	for _, p := range []api.Program{program(), nested(), lifted(), everywhere()} {
		p, rooms := roomy(p)
		// Lists that share memory in what is handed in don't in what comes back.
		p.Mid = p.Before
		p.Body = append(p.Body, p.Body[0])
		before := copyOf(p)
		for _, by := range [][]api.Pair{nil, {{Old: "a", New: "b"}}} {
			q := Rename(p, by...)
			handed := memory(&p)
			for at, n := range memory(&q) {
				if handed[at] > 0 || n > 1 {
					t.Fatalf("memory is shared: %v", by)
				}
			}
			eachValue(&q, func(path string, v reflect.Value) {
				switch v.Kind() {
				case reflect.String:
					v.SetString("written")
				case reflect.Slice:
					reflect.Append(v, reflect.Zero(v.Type().Elem())) // into its room, if it has one
				}
			})
			if !reflect.DeepEqual(p, before) {
				t.Fatal("what was handed in was changed")
			}
		}
		for _, room := range rooms {
			if n := room.Len(); room.Type().Elem().Kind() == reflect.String && (room.Index(n-2).String() != "a" || room.Index(n-1).String() != "") {
				t.Fatal("the room behind a list was written")
			}
		}
	}
}

func TestNamesIsNewMemory(t *testing.T) {
	p := nested()
	first := Names(p)
	want := slices.Clone(first)
	for i := range first {
		first[i] = "written"
	}
	wantNames(t, p, want...)
}

// As many parts within one another as the document bounds them to.
func TestDeepTrees(t *testing.T) {
	const most = 1 << 16
	e := onion(most, variable("core"), func(e api.Expr) api.Expr { return apply(api.ExNeg, e) })
	for _, p := range []api.Program{
		{Name: "p", Body: []api.Stmt{{Op: api.StWrite, E: []api.Expr{e}}}},
		{Name: "p", Body: []api.Stmt{onion(most, api.Stmt{Op: api.StRead, P: variable("core")}, blocks()["else"])}},
		{Name: "p", Body: []api.Stmt{onion(most, api.Stmt{Op: api.StRead, P: variable("core")}, blocks()["if"])}},
		{Name: "p", Routines: []api.Routine{onion(most, api.Routine{Name: "core"}, func(r api.Routine) api.Routine { return api.Routine{Name: "p", Inner: []api.Routine{r}} })}},
	} {
		for _, dialect := range dialects {
			wantProgram(t, dialect, p, api.ErrArg)
		}
		wantNames(t, p, "p", "core")
		q := Rename(p, api.Pair{Old: "core", New: "other"})
		wantNames(t, q, "p", "other")
		wantSame(t, p, q, false)
		wantSame(t, p, Rename(q, api.Pair{Old: "other", New: "core"}), true)
	}
	for _, dialect := range dialects {
		wantExpr(t, dialect, e, api.ErrArg)
	}
}

func TestManyNamesAndPairs(t *testing.T) {
	const n = 20000
	var p api.Program
	var by []api.Pair
	var want []string
	for i := range n {
		s := strconv.Itoa(i)
		p.Vars = append(p.Vars, api.Var{Name: "a" + s})
		by = append(by, api.Pair{Old: "a" + s, New: "b" + s}, api.Pair{Old: "b" + s, New: "c" + s})
		want = append(want, "b"+s)
	}
	wantNames(t, Rename(p, by...), want...)
	p = api.Program{Name: strings.Repeat("a$", n) + "b"}
	if q := Rename(p, api.Pair{Old: "a", New: "c"}); q.Name != strings.Repeat("c$", n)+"b" {
		t.Errorf("%d bytes", len(q.Name))
	}
}
