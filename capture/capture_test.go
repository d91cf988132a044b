package capture

import (
	"reflect"
	"slices"
	"strconv"
	"strings"
	"testing"

	"pantograph/api"
	"pantograph/check"
	"pantograph/parsepas"
	"pantograph/tree"
)

func name(i int) string { return "n" + strconv.Itoa(i) }

// whole makes a text of declarations and, behind a |, the statements of the program's Body.
func whole(s string) string {
	declarations, body, _ := strings.Cut(s, "|")
	return "program p; " + declarations + " begin " + body + " end."
}

func read(t *testing.T, s string) api.Program {
	t.Helper()
	p, d := parsepas.Read(whole(s))
	if d != (api.Diag{}) {
		t.Fatalf("%.3000s\nisn't read: %v", s, d)
	}
	if tree.Check(api.Pas, p) != api.OK {
		t.Fatalf("%.3000s\nisn't right of Pas", s)
	}
	return p
}

// calls makes both calls twice, and holds what must be so whatever the program is.
func calls(t *testing.T, p api.Program, about ...any) ([][]api.Param, []string) {
	t.Helper()
	kept := copyOf(p)
	ups, paths := Ups(p), Paths(p)
	if !reflect.DeepEqual(p, kept) {
		t.Fatal("another one behind the calls:", about)
	}
	if len(ups) != len(paths) {
		t.Fatal(len(ups), len(paths), about)
	}
	first, firstPaths := make([][]api.Param, len(ups)), slices.Clone(paths)
	for i, l := range ups {
		first[i] = append([]api.Param{}, l...)
		for k := range l[:cap(l)] {
			l[:cap(l)][k] = api.Param{Name: "spoilt"}
		}
	}
	for i := range first {
		if k := slices.IndexFunc(ups[i], func(u api.Param) bool { return u.Name != "spoilt" }); k >= 0 {
			t.Fatal("two lists share memory:", about)
		}
	}
	for i := range paths {
		paths[i] = "spoilt"
	}
	ups, paths = Ups(p), Paths(p)
	for i := range ups {
		if !slices.Equal(ups[i], first[i]) {
			t.Fatal("another answer the second time:", about)
		}
	}
	if len(ups) != len(first) || !slices.Equal(paths, firstPaths) || !reflect.DeepEqual(p, kept) {
		t.Fatal("another answer the second time:", about)
	}
	return first, firstPaths
}

// wantNothing is for programs that make no sense.
func wantNothing(t *testing.T, p api.Program, about ...any) {
	t.Helper()
	if ups, paths := calls(t, p, about...); len(ups)+len(paths) > 0 {
		t.Fatal(ups, paths, about)
	}
}

// want holds both calls against a line for each routine: its path, and the names of what it captures.
func want(t *testing.T, s string, lines ...string) {
	t.Helper()
	p := read(t, s)
	if i, e := check.Check(p); e != api.OK {
		t.Fatalf("%.3000s\nmakes no sense: %d, %d", s, i, e)
	}
	wantLines(t, p, s, lines)
	names := tree.Names(p)
	empty := names[len(s)%len(names)] // another one of each text
	for _, turn := range []func(string) string{
		func(s string) string { return "\xff" + s + "$ " + s },
		func(s string) string {
			if s == empty {
				return ""
			}
			return s + "_"
		},
	} {
		wantLines(t, renamed(p, turn), s, turnedLines(lines, turn))
	}
}

// A line's words are parted by |, as names may have blanks in them.
func line(path string, names ...string) string { return path + "|" + strings.Join(names, "|") }

func turnedLines(lines []string, turn func(string) string) []string {
	var l []string
	for _, s := range lines {
		words := strings.Fields(s)
		parts := strings.Split(words[0], "$")
		for i := range parts {
			parts[i] = turn(parts[i])
		}
		for i := range words {
			words[i] = turn(words[i])
		}
		l = append(l, line(strings.Join(parts, "$"), words[1:]...))
	}
	return l
}

func wantLines(t *testing.T, p api.Program, s string, lines []string) {
	t.Helper()
	if i := slices.IndexFunc(lines, func(s string) bool { return !strings.Contains(s, "|") }); i >= 0 {
		lines = turnedLines(lines, func(s string) string { return s })
	}
	ups, paths := calls(t, p, s)
	if len(paths) != len(lines) {
		t.Fatalf("%s\n%d routines, want %d", s, len(paths), len(lines))
	}
	for i, l := range ups {
		var names []string
		for _, u := range l {
			names = append(names, u.Name)
			if u.Mode != api.ByUp {
				t.Fatalf("%s\n%v isn't ByUp", s, u)
			}
		}
		if got := line(paths[i], names...); got != lines[i] {
			t.Fatalf("%s\nroutine %d: %q, want %q", s, i, got, lines[i])
		}
	}
}

// eachValue goes through all that a tree holds, with the room behind its lists' lengths.
func eachValue(path string, v reflect.Value, f func(path string, v reflect.Value)) {
	switch v.Kind() {
	case reflect.Pointer:
		eachValue(path, v.Elem(), f)
		return
	case reflect.Struct:
		for i := range v.NumField() {
			eachValue(path+"."+v.Type().Field(i).Name, v.Field(i), f)
		}
	case reflect.Slice:
		for i := range v.Cap() {
			eachValue(path+"[]", v.Slice(0, v.Cap()).Index(i), f)
		}
	}
	f(path, v)
}

// copyOf shares no memory with p.
func copyOf(p api.Program) api.Program {
	q := p
	copyLists(reflect.ValueOf(&q).Elem())
	return q
}

func copyLists(v reflect.Value) {
	switch v.Kind() {
	case reflect.Struct:
		for i := range v.NumField() {
			copyLists(v.Field(i))
		}
	case reflect.Slice:
		if v.IsNil() {
			return
		}
		l := reflect.MakeSlice(v.Type(), v.Cap(), v.Cap())
		reflect.Copy(l, v.Slice(0, v.Cap()))
		for i := range l.Len() {
			copyLists(l.Index(i))
		}
		v.Set(l.Slice3(0, v.Len(), v.Cap()))
	}
}

// renamed turns each name that stands somewhere, whatever it is.
func renamed(p api.Program, f func(string) string) api.Program {
	q := copyOf(p)
	eachValue("", reflect.ValueOf(&q), func(path string, v reflect.Value) {
		if v.Kind() == reflect.String && v.String() != "" && (strings.HasSuffix(path, ".Name") || strings.HasSuffix(path, ".Field")) {
			v.SetString(f(v.String()))
		}
	})
	return q
}

func TestWithoutRoutines(t *testing.T) {
	want(t, "|")
	want(t, "var x : integer; | x := 1; for x := 1 to 2 do begin write(x); end;")
	want(t, "type r = record a : char; end; var v : r; | v.a := 'a';")
	wantNothing(t, api.Program{}, "nothing at all")
}

func TestExample(t *testing.T) {
	want(t, "procedure f; var x : integer; procedure g; begin x := 1; end; procedure h; begin g(); end; begin h(); end;",
		"f", "f$g x", "f$h x")
}

// Each routine, and behind it its Inner ones in theirs.
func TestOrderOfRoutines(t *testing.T) {
	want(t, "procedure f; begin end;", "f")
	want(t, "procedure b; begin end; function a : char; begin return 'a'; end; procedure c; begin end; | b(); c();", "b", "a", "c")
	want(t, `
		procedure z;
		  procedure y; begin end;
		  procedure x;
		    procedure w;
		      procedure v; procedure u; begin end; begin end;
		      begin end;
		    procedure t; begin end;
		    begin end;
		  procedure s; begin end;
		  begin end;
		procedure r; procedure q; begin end; begin end;
		procedure o; begin end;`,
		"z", "z$y", "z$x", "z$x$w", "z$x$w$v", "z$x$w$v$u", "z$x$t", "z$s", "r", "r$q", "o")
}

// A routine's name may be there again where it isn't visible.
func TestRoutinesOfOneNameInDifferentLists(t *testing.T) {
	want(t, `
		procedure f;
		  var a : integer;
		  procedure g; begin h(); end;
		  procedure h; begin a := 1; end;
		  begin g(); end;
		procedure f1;
		  var a : char;
		  procedure h; begin g(); end;
		  procedure g; begin a := 'a'; end;
		  begin h(); end;
		procedure f2;
		  var h : integer; var a : boolean;
		  procedure g; begin g(); h := 1; end;
		  begin g(); end;
		procedure f3;
		  procedure h; procedure a; begin end; begin a(); end;
		  procedure g; procedure a; begin g(); end; begin a(); end;
		  begin h(); g(); end;`,
		"f", "f$g a", "f$h a", "f1", "f1$h a", "f1$g a", "f2", "f2$g h", "f3", "f3$h", "f3$h$a", "f3$g", "f3$g$a")
}
