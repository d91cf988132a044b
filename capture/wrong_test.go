package capture

import (
	"math"
	"math/rand"
	"reflect"
	"strings"
	"testing"

	"pantograph/api"
	"pantograph/check"
)

// nest is a program with a nest of routines, of which the innermost one captures. At a mark stands what may make no sense: a variable at ~v, a routine at ~d, a statement at ~s.
const nest = `
	type r = record a : integer; end;
	var v : integer; ~v
	procedure f(a : integer); var b : integer; ~v
	  procedure g; var c : r; ~v ~d procedure h; ~v ~d begin b := a; ~s end; begin h(); end;
	  begin g(); end;
	function i(n : integer) : integer; ~v ~d begin ~s return n; end;
	~d | f(1); ~s`

// fill sets one of the marks, and nothing at all others.
func fill(at int, mark, s string) string {
	l := strings.Split(nest, mark)
	l[at] += s + l[at+1]
	l[at+1] = ""
	return strings.NewReplacer("~v", "", "~d", "", "~s", "").Replace(strings.Join(l, ""))
}

func TestProgramsThatMakeNoSense(t *testing.T) {
	for mark, l := range map[string][]string{
		"~v": {"var x : char; var x1 : char; var y : q;", "var r : char;", "var f : char;", "var x : char; var i : char;"},
		"~d": {"procedure r; begin end;", "procedure k; var v : char; begin end;", "procedure k(r : char); begin end;", "procedure k(k : char); begin end;", "procedure k(var x : q); begin end;",
			"function k : char; begin end;", "procedure k; procedure k2; var k : char; begin end; begin end;", "procedure k; procedure k2; begin x := 1; end; begin end;"},
		"~s": {"x := 1;", "read(x);", "k();", "write(k());", "for x := 1 to 2 do begin end;", "v := x;", "v := f;", "v[1] := 2;", "v.a := 2;", "v := 'a';", "v := i;",
			"i(1);", "v := f(1);", "if 1 then begin end;", "while v do begin end;", "repeat until 'a';", "for v := 1 to 'a' do begin end;",
			"write(1 + true);", "write(not 1);", "write(-true);", "write('a' and true);", "write(1 = true);", "write(true < false);",
			"f();", "f(1, 2);", "f('a');", "v := i(1, 2);", "if true then begin v := true; end;", "if true then begin end else begin x := 1; end;"},
	} {
		for _, s := range l {
			for at := range strings.Count(nest, mark) {
				p := read(t, fill(at, mark, s))
				if _, e := check.Check(p); e == api.OK {
					t.Fatal(s, at, "makes sense")
				}
				wantNothing(t, p, s, at)
			}
		}
	}
	want(t, fill(0, "~s", "v := i(b);"), "f", "f$g a b", "f$g$h a b", "i")
}

func TestReturnsThatMakeNoSense(t *testing.T) {
	for _, s := range []string{
		"function f : char; var a : char; procedure g; begin a := 'a'; end; begin g(); end;",
		"procedure f; var a : char; procedure g; begin a := 'a'; return a; end; begin g(); end;",
		"function f : char; var a : char; procedure g; begin a := 'a'; end; begin g(); return; end;",
		"procedure f; var a : char; procedure g; begin a := 'a'; end; begin g(); end; | return 1;",
	} {
		p := read(t, s)
		if _, e := check.Check(p); e != api.ErrReturn {
			t.Fatal(s, e)
		}
		wantNothing(t, p, s)
	}
	p := read(t, "type r = record a : char; b : char; end; procedure f; begin end;")
	p.Recs[0].Fields[1].Name = "a"
	wantNothing(t, p)
	p = read(t, "type r = record a : char; end; type q = record a : char; end; procedure f; begin end;")
	p.Recs[1].Name = "r"
	wantNothing(t, p)
}

// wantEnd is for trees of which nothing but that the calls end, and that they stay as they are, is promised.
func wantEnd(t *testing.T, p api.Program, about ...any) bool {
	t.Helper()
	ups, _ := calls(t, p, about...)
	_, e := check.Check(p)
	if e != api.OK && len(ups) > 0 || e == api.OK && len(ups) != routines(p.Routines) {
		t.Fatal(e, len(ups), about)
	}
	return e == api.OK
}

func routines(l []api.Routine) int {
	n := len(l)
	for i := range l {
		n += routines(l[i].Inner)
	}
	return n
}

// Each single value of a tree becomes another one, each list a shorter one, none, or a longer one.
func TestTreesThatAreNotRight(t *testing.T) {
	t.Parallel()
	p := read(t, used("if yes then begin n := h(x); end else begin x := v; end; while n = 1 do begin by(x_row[v]); write(w); end; for x := 1 to y do begin read(x_rec.left); end;"))
	places, ok := 0, 0
	eachValue("", reflect.ValueOf(&p), func(string, reflect.Value) { places++ })
	for at := range places {
		for way := range 6 {
			q, n := copyOf(p), 0
			eachValue("", reflect.ValueOf(&q), func(_ string, v reflect.Value) {
				if n++; n == at+1 {
					spoil(v, way)
				}
			})
			if wantEnd(t, q, at, way) {
				ok++
			}
		}
	}
	if ok < 100 {
		t.Error(ok)
	}
}

func spoil(v reflect.Value, way int) {
	switch v.Kind() {
	case reflect.Int, reflect.Int64:
		v.SetInt([]int64{0, -1, 1, 7, math.MaxInt64, math.MinInt64}[way])
	case reflect.String:
		v.SetString([]string{"", "n", "\xff", "begin", "a$b", strings.Repeat("n", 99)}[way])
	case reflect.Bool:
		v.SetBool(way%2 == 0)
	case reflect.Slice:
		switch n := v.Len(); {
		case way == 0 || n == 0:
			v.SetZero()
		case way == 1:
			v.SetLen(0)
		case way == 2:
			v.SetLen(n - 1)
		case way == 3:
			v.Set(reflect.AppendSlice(v, v))
		default:
			v.Set(reflect.Append(v, reflect.Zero(v.Type().Elem())))
		}
	}
}

// wild is a tree of which nothing is right.
type wild struct{ *rand.Rand }

func (w wild) number() int {
	if w.Intn(20) == 0 {
		return []int{math.MinInt, math.MaxInt, -1, 1 << 40}[w.Intn(4)]
	}
	return w.Intn(27) - 1
}

func (w wild) fill(v reflect.Value, depth int) {
	switch v.Kind() {
	case reflect.Struct:
		for i := range v.NumField() {
			w.fill(v.Field(i), depth)
		}
	case reflect.Int, reflect.Int64:
		v.SetInt(int64(w.number()))
	case reflect.String:
		v.SetString([]string{"", "a", "b", "c", "\x00", "a$b"}[w.Intn(6)])
	case reflect.Bool:
		v.SetBool(w.Intn(2) == 0)
	case reflect.Slice:
		if depth == 0 {
			return
		}
		v.Set(reflect.MakeSlice(v.Type(), w.Intn(4), 4))
		for i := range v.Len() {
			w.fill(v.Index(i), depth-1)
		}
	}
}

func TestTreesOfAnyKind(t *testing.T) {
	t.Parallel()
	w := wild{rand.New(rand.NewSource(1))}
	for n := range 5000 {
		var p api.Program
		w.fill(reflect.ValueOf(&p).Elem(), n%4+1)
		wantEnd(t, p, n)
	}
}

// No rule tells of routines of one list that have one name (a text with them isn't read): a call means the first.
func TestRoutinesOfOneListThatHaveOneName(t *testing.T) {
	p := read(t, `
		procedure f; var a : integer; var b : integer;
		  procedure g; begin a := 1; end;
		  procedure h; procedure k; begin g(); end; begin b := 1; g(); end;
		  procedure i; begin g(); end;
		  procedure j; begin end;
		  begin g(); end;`)
	f := &p.Routines[0]
	f.Inner[1].Name, f.Inner[3].Name = "g", "g"
	wantLines(t, p, "twins", []string{"f", "f$g a", "f$g a b", "f$g$k a", "f$i a", "f$g"})
}

// What Check doesn't look at, as no tree that is right of Pas has it there, may name whatever it likes: what isn't visible isn't captured.
func TestWhatNoTreeOfPasHas(t *testing.T) {
	p := read(t, `
		procedure f; var a : integer;
		  procedure i(b : integer); var c : integer; procedure k; begin a := 1; end; begin end;
		  procedure g; begin write(1); write(a); end;
		  begin g(); end;`)
	s := &p.Routines[0].Inner[1].Body[0]
	s.Name, s.P = "a", api.Expr{Op: api.ExVar, Name: "nobody", L: []api.Expr{
		{Op: api.ExCall, Name: "none"}, {Op: api.ExCall, Name: "k"}, {Op: api.ExCall, Name: "a"},
		{Op: api.ExField, Name: "f"}, {Op: api.ExIndex, Name: "b"}, {Op: api.ExVar, Name: "c"},
	}}
	s.E[0].L = []api.Expr{{Op: api.ExUp, Name: "a"}}
	wantLines(t, p, "no tree of Pas", []string{"f", "f$i", "f$i$k a", "f$g a"})
	p.Routines[0].Inner[1].Body = []api.Stmt{*s}
	wantLines(t, p, "no tree of Pas", []string{"f", "f$i", "f$i$k a", "f$g"})
}
