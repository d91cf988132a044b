package capture

import (
	"slices"
	"strings"
	"testing"

	"pantograph/api"
)

// spots are all that a statement may have where a number may stand: at the ~.
var spots = []string{
	"n := ~;", "row[~] := 1;", "rec.right := ~ = 1;", "n := row[~];", "n := row[row[~]];",
	"n := -~;", "n := -(-~);", "n := ~ * 2;", "n := 2 * ~;", "n := ~ div 2;", "n := 2 div ~;", "n := ~ mod 2;", "n := 2 mod ~;",
	"n := ~ + 2;", "n := 2 + ~;", "n := ~ - 2;", "n := 2 - ~;", "n := (1 + 2) * (3 - (4 + ~));",
	"yes := ~ = 2;", "yes := 2 = ~;", "yes := ~ <> 2;", "yes := 2 <> ~;", "yes := ~ < 2;", "yes := 2 < ~;", "yes := ~ <= 2;", "yes := 2 <= ~;",
	"yes := ~ > 2;", "yes := 2 > ~;", "yes := ~ >= 2;", "yes := 2 >= ~;",
	"yes := not (~ = 2);", "yes := (~ = 1) and yes;", "yes := yes and (~ = 1);", "yes := (~ = 1) and then yes;", "yes := yes and then (~ = 1);",
	"yes := (~ = 1) or yes;", "yes := yes or (~ = 1);", "yes := (~ = 1) or else yes;", "yes := yes or else (~ = 1);",
	"one(~);", "two(~, 1);", "two(1, ~);", "by(row[~]);", "one(-~);", "one(id(~));", "n := id(~);", "n := add(~, 1);", "n := add(1, ~);", "n := id(id(id(~)));", "row[id(~)] := 1;",
	"if ~ = 1 then begin end;", "if yes then begin n := ~; end;", "if yes then begin end else begin n := ~; end;", "if yes then begin n := 1; n := ~; n := 2; end else begin end;",
	"while ~ = 1 do begin end;", "while yes do begin n := ~; end;", "repeat until ~ = 1;", "repeat n := ~; until yes;",
	"for n := ~ to 2 do begin end;", "for n := 1 to ~ do begin end;", "for n := 1 downto ~ do begin end;", "for n := 1 to 2 do begin n := ~; end;",
	"read(row[~]);", "write(~);", "return ~;", "n := 1; n := ~; n := 2;", "return 1; n := ~;",
	"if yes then begin while yes do begin repeat for n := 1 to 2 do begin if yes then begin end else begin write(row[-~]); end; end; until yes; end; end;",
}

// names are the statements that name a variable without asking for its value, or that name it elsewhere than as a number.
var names = []string{
	"~ := 1;", "read(~);", "for ~ := 1 to 2 do begin end;", "for ~ := 2 downto 1 do begin end;", "by(~);", "two_by(~, n);", "two_by(n, ~);", "n := by_id(~);",
	"if yes then begin ~ := 1; end;", "if yes then begin end else begin ~ := 1; end;", "while yes do begin ~ := 1; end;", "repeat ~ := 1; until yes;", "for n := 1 to 2 do begin ~ := 1; end;",
	"if yes then begin for ~ := 1 to 2 do begin end; end else begin end;", "while yes do begin read(~); end;",
}

// used is a program whose function f$g has the statement in it. Around it stand x in f, and as many more ways to name a variable.
func used(statement string) string {
	return `
	type pair = record left : integer; right : boolean; end;
	var w : integer; var w_row : array[3] of integer; var w_rec : pair;
	procedure one(a : integer); begin end;
	procedure two(a : integer; b : integer); begin end;
	procedure by(var a : integer); begin end;
	procedure two_by(var a : integer; var b : integer); begin end;
	function id(a : integer) : integer; begin return a; end;
	function add(a : integer; b : integer) : integer; begin return a + b; end;
	function by_id(var a : integer) : integer; begin return a; end;
	function f(v : integer; var x : integer) : integer;
	  var x_row : array[3] of integer; var x_rec : pair;
	  function h(a : integer) : integer; begin return x; end;
	  function g(c : integer) : integer;
	    var n : integer; var yes : boolean; var row : array[3] of integer; var rec : pair; var y : integer;
	    function i : integer; begin return v; end;
	    begin ` + statement + ` return 0; end;
	  begin return 0; end;
	|`
}

// wantUsed asks for what f$g captures if the ~ is filled so.
func wantUsed(t *testing.T, spot, filling string, captured ...string) {
	t.Helper()
	s := used(strings.ReplaceAll(spot, "~", filling))
	want(t, s, "one", "two", "by", "two_by", "id", "add", "by_id", "f", "f$h x", strings.Join(append([]string{"f$g"}, captured...), " "), "f$g$i v")
}

func TestUses(t *testing.T) {
	for _, spot := range slices.Concat(spots, names) {
		wantUsed(t, spot, "x", "x")
		wantUsed(t, spot, "v", "v")
		wantUsed(t, spot, "w")
		wantUsed(t, spot, "c")
		wantUsed(t, spot, "y")
		if strings.Contains(spot, "for ~") {
			continue
		}
		wantUsed(t, spot, "x_row[1]", "x_row")
		wantUsed(t, spot, "x_row[v]", "v", "x_row")
		wantUsed(t, spot, "w_row[x_row[y]]", "x_row")
		wantUsed(t, spot, "w_row[y]")
		wantUsed(t, spot, "row[w]")
		wantUsed(t, spot, "x_rec.left", "x_rec")
		wantUsed(t, spot, "w_rec.left")
		wantUsed(t, spot, "rec.left")
	}
}

func TestCallsInExpressions(t *testing.T) {
	for _, spot := range spots {
		wantUsed(t, spot, "1")
		wantUsed(t, spot, "h(1)", "x")
		wantUsed(t, spot, "h(v)", "v", "x")
		wantUsed(t, spot, "id(h(1))", "x")
		wantUsed(t, spot, "h(i())", "v", "x")
		wantUsed(t, spot, "i()", "v")
		wantUsed(t, spot, "g(1)")
		wantUsed(t, spot, "f(1, w)")
		wantUsed(t, spot, "f(1, x)", "x")
		wantUsed(t, spot, "id(1)")
	}
}

// A name is a use only where it names a local.
func TestNamesThatAreNoUse(t *testing.T) {
	// A field's name, a record's.
	want(t, `
		type r = record a : integer; f : char; end; var v : r;
		procedure f;
		  var a : integer;
		  procedure g; var b : r; begin v.a := b.a; v.f := 'a'; end;
		  procedure h; begin v.a := a; end;
		  begin a := 1; end;`, "f", "f$g", "f$h a")
	// A routine's.
	want(t, `
		function f : integer;
		  function g : integer; begin return f() + g(); end;
		  begin return g(); end;
		procedure k; var f1 : integer; begin f1 := f(); end;`, "f", "f$g", "k")
	// What is named in a routine within it that it doesn't call, or by one that calls it.
	want(t, `
		procedure f;
		  var a : integer; var b : char;
		  procedure g;
		    procedure h; begin a := 1; end;
		    begin end;
		  procedure i; begin b := 'b'; g(); end;
		  begin i(); end;`, "f", "f$g", "f$g$h a", "f$i b")
	// The program's Body is no routine's.
	want(t, "var a : integer; procedure f; var b : integer; procedure g; begin b := 1; end; begin g(); end; | a := 1; f();", "f", "f$g b")
}

// What is told has the local's name and type, and is ByUp.
func TestLocalsOfEachType(t *testing.T) {
	all := []api.Type{{Kind: api.KindInt}, {Kind: api.KindBool}, {Kind: api.KindChar}, {Kind: api.KindInt, Size: 1}, {Kind: api.KindBool, Size: 2}, {Kind: api.KindChar, Size: api.MaxSize}, {Kind: api.KindRec, Name: "r"}, {Kind: api.KindRec, Name: "r2"}}
	for _, typ := range all {
		use := api.Expr{Op: api.ExVar, Name: "a"}
		if typ.Size > 0 {
			use = api.Expr{Op: api.ExIndex, Name: "a", L: []api.Expr{{Op: api.ExInt}}}
		} else if typ.Kind == api.KindRec {
			use = api.Expr{Op: api.ExField, Name: "a", Field: "k"}
		}
		g := api.Routine{Name: "g", Body: []api.Stmt{{Op: api.StWrite, E: []api.Expr{use}}}}
		f := api.Routine{Name: "f", Inner: []api.Routine{g}}
		p := api.Program{Name: "p", Recs: []api.Rec{{Name: "r", Fields: []api.Field{{Name: "k", Kind: api.KindInt}}}, {Name: "r2", Fields: []api.Field{{Name: "k", Kind: api.KindChar}}}}}
		for mode := api.ByValue; mode <= api.ByUp; mode++ {
			f.Params, f.Vars = []api.Param{{Name: "a", T: typ, Mode: mode}}, nil
			if mode == api.ByUp {
				marks := api.Marks{Before: []string{"before"}, Trail: []string{"trail"}}
				f.Params, f.Vars = nil, []api.Var{{Marks: marks, Name: "a", T: typ}}
			}
			p.Routines = []api.Routine{f}
			ups, _ := calls(t, p, typ, mode)
			if len(ups) != 2 || len(ups[0]) != 0 || !slices.Equal(ups[1], []api.Param{{Name: "a", T: typ, Mode: api.ByUp}}) {
				t.Fatal(typ, mode, ups)
			}
		}
	}
}
