package check

import (
	"strings"
	"testing"
)

// family has a routine three deep, and beside each of them another one. A ~ stands where a statement may stand.
const family = `
	var v : integer;
	procedure a(pa : integer);
	  var va : integer;
	  procedure b(pb : integer);
	    var vb : integer;
	    procedure c(pc : integer);
	      var vc : integer;
	      begin ~c end;
	    procedure c2(pc2 : integer);
	      var vc2 : integer;
	      begin ~c2 end;
	    begin ~b end;
	  procedure b2(pb2 : integer);
	    var vb2 : integer;
	    procedure d(pd : integer);
	      var vd : integer;
	      begin ~d end;
	    begin ~b2 end;
	  begin ~a end;
	procedure a2(pa2 : integer);
	  var va2 : integer;
	  procedure e(pe : integer);
	    var ve : integer;
	    begin ~e end;
	  begin ~a2 end;
	| ~p`

// sight tells by a body's mark which locals and which routines are visible there; all others aren't.
var sight = map[string]struct{ of, routines string }{
	"p":  {"p", "a a2"},
	"a":  {"p a", "a a2 b b2"},
	"b":  {"p a b", "a a2 b b2 c c2"},
	"c":  {"p a b c", "a a2 b b2 c c2"},
	"c2": {"p a b c2", "a a2 b b2 c c2"},
	"b2": {"p a b2", "a a2 b b2 d"},
	"d":  {"p a b2 d", "a a2 b b2 d"},
	"a2": {"p a2", "a a2 e"},
	"e":  {"p a2 e", "a a2 e"},
}

func has(list, s string) bool { return strings.Contains(" "+list+" ", " "+s+" ") }

// fill sets a statement at one of the marks, and nothing at all others.
func fill(at, s string) string {
	l := strings.Split(family, "~")
	for i, rest := range l[1:] {
		word := strings.Fields(rest)[0]
		rest = strings.TrimPrefix(rest, word)
		if word == at {
			rest = s + rest
		}
		l[i+1] = rest
	}
	return strings.Join(l, "")
}

func TestVisible(t *testing.T) {
	for at, sees := range sight {
		for owner := range sight {
			locals := []string{"p" + owner, "v" + owner}
			if owner == "p" {
				locals = []string{"v"}
			}
			for _, name := range locals {
				wrong := "{none} "
				if has(sees.of, owner) {
					wrong = ""
				}
				wantTexts(t, fill(at, wrong+name+" := 1;"), fill(at, wrong+"for "+name+" := 1 to 2 do begin end;"), fill(at, "return; "+wrong+"write("+name+");"), fill(at, wrong+"read("+name+");"))
			}
			if owner != "p" {
				wrong := "{none} "
				if has(sees.routines, owner) {
					wrong = ""
				}
				wantTexts(t, fill(at, wrong+owner+"(1);"), fill(at, "if true then begin end else begin "+wrong+owner+"(2); end;"))
			}
		}
		wantTexts(t, fill(at, "{none} x := 1;"), fill(at, "{none} x();"), fill(at, "{none} p();"))
	}
}

// A name names a local where one is asked for, and a routine where one is.
func TestNamesOfAnotherKind(t *testing.T) {
	wantTexts(t,
		"type r = record a : integer; end; var v : r; | {none} r.a := 1;",
		"type r = record a : integer; end; | {none} r := 1;",
		"type r = record a : integer; end; | {none} r();",
		"type r = record a : integer; end; var v : r; | {none} a := 1;",
		"var v : integer; | {none} v();",
		"var v : integer; | {none} write(v());",
		"procedure f(a : integer); begin {none} a(); end;",
		"procedure f; begin {none} f := 1; end;",
		"function f : integer; begin return 1; end; | {none} write(f);",
		"function f : integer; begin return 1; end; | {none} write(f[1]);",
		"function f : integer; begin return 1; end; | {none} write(f.a);",
		"procedure f; begin end; | {none} for f := 1 to 2 do begin end;",
		"| {none} p := 1;",
		"| {none} p();",
	)
}

func TestRoutinesThatCallEachOther(t *testing.T) {
	wantTexts(t,
		"procedure f; begin g(); end; procedure g; begin f(); g(); end; | g(); f();",
		"function f(n : integer) : integer; begin return f(f(n)) + g(n); end; function g(n : integer) : integer; begin return f(n); end; | write(f(g(1)));",
		"procedure f; procedure g; begin h(); f(); end; procedure h; begin g(); end; begin g(); h(); end;",
		"procedure f; procedure g; begin {count} h(); f(); end; procedure h(a : char); begin g(); end; begin g(); {count} h(); end;",
		"procedure f; begin {type} g(); end; function g : char; begin return 'a'; end;",
		"procedure f; begin {none} h(); end; procedure g; procedure h; begin end; begin end;",
		// What is called is looked at where it stands, be it wrong itself or not.
		"type s = record a : char; end; var v : s; procedure f; begin {type} g(v); end; procedure g(var a : r); begin end;",
		"procedure f; begin g(); end; {return} function h : char; begin end; procedure g; begin end;",
		"procedure f; begin g(1); end; {twice} procedure g(g : integer); begin end;",
	)
}

// Where a routine within another one has a name that was there already, it is told at it, and till then the innermost one is meant.
func TestRoutinesThatAreThereTwice(t *testing.T) {
	wantTexts(t,
		"procedure f; procedure h; begin g(1); end; {twice} procedure g(a : integer); begin end; begin end; procedure g; begin end;",
		"procedure f; procedure h; begin {count} g(); end; procedure g(a : integer); begin end; begin end; procedure g; begin end;",
		"procedure f; procedure h; procedure k; begin g(1); end; begin end; {twice} procedure g(a : integer); begin end; begin end; procedure g; begin end;",
		"procedure g; begin end; procedure f(a : integer); procedure h; begin a(); a := 1; end; {twice} procedure a; begin end; begin end;",
	)
}
