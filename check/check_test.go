package check

import (
	"reflect"
	"regexp"
	"strings"
	"testing"

	"pantograph/api"
	"pantograph/parsepas"
	"pantograph/tree"
)

// codes are the errors as comments tell them: such a comment stands ahead of the item that is wrong.
var codes = map[string]api.Errno{
	"twice": api.ErrTwice, "none": api.ErrNone, "type": api.ErrType, "count": api.ErrCount, "return": api.ErrReturn,
}

var mark = regexp.MustCompile(`\{(twice|none|type|count|return)\}`)

// whole makes a text of declarations and, behind a |, the statements of the program's Body.
func whole(s string) string {
	declarations, body, _ := strings.Cut(s, "|")
	return "program p; " + declarations + " begin " + body + " end."
}

func read(t *testing.T, s string) api.Program {
	t.Helper()
	p, d := parsepas.Read(s)
	if d != (api.Diag{}) {
		t.Fatalf("%.3000s\nisn't read: %v", s, d)
	}
	if tree.Check(api.Pas, p) != api.OK {
		t.Fatalf("%.3000s\nisn't right of Pas", s)
	}
	return p
}

// marked tells which item of a text stands behind the first comment that names an error.
func marked(t *testing.T, s string) (int, api.Errno) {
	t.Helper()
	at := mark.FindStringSubmatchIndex(s)
	if at == nil {
		return 0, api.OK
	}
	item := 0
	for _, p := range parsepas.Items(s) {
		if p.At < at[0] {
			item++
		}
	}
	return item, codes[s[at[2]:at[3]]]
}

// wantText holds Check and Count against what the text itself tells.
func wantText(t *testing.T, s string) {
	t.Helper()
	p := read(t, s)
	if n := Count(p); n != len(parsepas.Items(s)) {
		t.Fatalf("%.3000s\nhas %d items, want %d", s, n, len(parsepas.Items(s)))
	}
	item, e := marked(t, s)
	wantProgram(t, p, item, e, s)
	wantProgram(t, renamed(p, func(s string) string { return "\xff" + s + "$ " + s }), item, e, s)
	names := tree.Names(p)
	empty := names[len(s)%len(names)] // another one of each text
	wantProgram(t, renamed(p, func(s string) string {
		if s == empty {
			return ""
		}
		return s + "_"
	}), item, e, s)
}

func wantTexts(t *testing.T, l ...string) {
	t.Helper()
	for _, s := range l {
		wantText(t, whole(s))
	}
}

func wantProgram(t *testing.T, p api.Program, item int, e api.Errno, about string) {
	t.Helper()
	kept := copyOf(p)
	if i, got := Check(p); i != item || got != e {
		t.Fatalf("%.3000s\nCheck: %d, %d, want %d, %d", about, i, got, item, e)
	}
	if n := Count(p); e != api.OK && item >= n {
		t.Fatalf("%.3000s\nitem %d of %d", about, item, n)
	}
	if !reflect.DeepEqual(p, kept) {
		t.Fatalf("%.3000s\nis another one behind the call", about)
	}
}

// eachValue goes through all that a tree holds, with the room behind its lists' lengths.
func eachValue(path string, v reflect.Value, f func(path string, v reflect.Value)) {
	switch v.Kind() {
	case reflect.Pointer:
		eachValue(path, v.Elem(), f)
		return
	case reflect.Struct:
		for i := range v.NumField() {
			eachValue(path+"."+v.Type().Field(i).Name, v.Field(i), f)
		}
	case reflect.Slice:
		for i := range v.Cap() {
			eachValue(path+"[]", v.Slice(0, v.Cap()).Index(i), f)
		}
	}
	f(path, v)
}

// copyOf shares no memory with p.
func copyOf(p api.Program) api.Program {
	q := p
	copyLists(reflect.ValueOf(&q).Elem())
	return q
}

func copyLists(v reflect.Value) {
	switch v.Kind() {
	case reflect.Struct:
		for i := range v.NumField() {
			copyLists(v.Field(i))
		}
	case reflect.Slice:
		if v.IsNil() {
			return
		}
		l := reflect.MakeSlice(v.Type(), v.Cap(), v.Cap())
		reflect.Copy(l, v.Slice(0, v.Cap()))
		for i := range l.Len() {
			copyLists(l.Index(i))
		}
		v.Set(l.Slice3(0, v.Len(), v.Cap()))
	}
}

// renamed turns each name that stands somewhere, whatever it is.
func renamed(p api.Program, f func(string) string) api.Program {
	q := copyOf(p)
	eachValue("", reflect.ValueOf(&q), func(path string, v reflect.Value) {
		if v.Kind() == reflect.String && v.String() != "" && (strings.HasSuffix(path, ".Name") || strings.HasSuffix(path, ".Field")) {
			v.SetString(f(v.String()))
		}
	})
	return q
}

// all that a program may have, and it makes sense.
const ordinary = `
	type pair = record left : integer; right : boolean; sign : char; end;
	type one = record left : char; end;
	var n : integer; var yes : boolean; var c : char;
	var row : array[3] of integer; var flags : array[2] of boolean;
	var a : pair; var b : one;
	procedure swap(var x : integer; var y : integer);
	  var keep : integer;
	  begin keep := x; x := y; y := keep; end;
	function fact(k : integer) : integer;
	  begin if k < 2 then begin return 1; end; return k * fact(k - 1); end;
	function even(k : integer) : boolean;
	  function odd(k_1 : integer) : boolean;
	    begin if k_1 = 0 then begin return false; end else begin return even(k_1 - 1); end; end;
	  begin if k = 0 then begin return true; end else begin return odd(k - 1); end; end;
	procedure fill(var r : array[3] of integer; var q : pair);
	  var i : integer;
	  procedure set(at : integer);
	    begin r[at] := at * at; q.left := at; end;
	  begin for i := 0 to 2 do begin set(i); end; swap(r[0], q.left); return; end;
	function first(var r : array[3] of integer) : char;
	  begin return 'a'; end;
	|
	n := -(3 mod 2) + 4 div 2 - 1; yes := not (n = 1) and (c <> 'x') or yes and then true or else false;
	read(n); read(c); read(row[n]); read(a.left); read(a.sign); read(b.left);
	fill(row, a); swap(row[n], a.left); swap(n, row[row[0]]);
	while even(n) <> yes do begin n := n - fact(n); end;
	repeat write(first(row)); write(a.right); write(flags[1]); until (c < 'z') = (n >= 3);
	for n := 10 downto fact(2) do begin if yes then begin return; end else begin a.right := flags[0] = (1 > 2); end; end;`

func TestOrdinaryPrograms(t *testing.T) {
	wantTexts(t, "|", ordinary, "| return;", "var p : integer; | p := p;", "procedure p; begin p(); end; | p();")
	wantTexts(t, "var n : integer; | n := 1;", "var n : integer; | {type} n := true;")
	if i, e := Check(api.Program{}); i != 0 || e != api.OK {
		t.Fatal(i, e)
	}
}

func TestCount(t *testing.T) {
	for s, want := range map[string]int{
		"|":             0,
		"| return;":     1,
		"var x : char;": 1,
		"type r = record a : char; b : char; end;": 1,
		"procedure f(a : char); begin end;":        1,
		"procedure f(a : char); var b : char; procedure g; begin return; end; begin return; end; | return; return;": 7,
		"| if true then begin return; return; end else begin return; end;":                                          4,
		"| while true do begin repeat write(1); until true; end;":                                                   3,
		"var x : integer; | for x := 1 to 2 do begin write(1); end; write(2 + 3 * 4);":                              4,
	} {
		if n := Count(read(t, whole(s))); n != want {
			t.Errorf("%s: %d, want %d", s, n, want)
		}
	}
	if n := Count(api.Program{Name: "p", Before: []string{"a"}, Mid: []string{"b"}, After: []string{"c"}, End: []string{"d"}}); n != 0 {
		t.Error(n)
	}
}
