package check

import (
	"reflect"
	"testing"

	"pantograph/api"
)

const (
	ret    = "return 1; "
	wr     = "write(1); "
	both   = "if true then begin return 1; end else begin return 2; end; "
	noElse = "if true then begin return 1; end; "
)

// ending is of rows of statements whether they end with a value.
var ending = map[string]bool{
	"":                 false,
	wr:                 false,
	ret:                true,
	"return; ":         true,
	ret + wr:           true,
	wr + ret:           true,
	wr + ret + wr + wr: true,
	wr + wr:            false,
	both:               true,
	wr + both + wr:     true,
	noElse:             false,
	noElse + noElse:    false,
	noElse + ret:       true,
	ret + noElse:       true,
	noElse + both:      true,
	"if true then begin write(1); end else begin return 1; end; ":                               false,
	"if true then begin return 1; end else begin write(1); end; ":                               false,
	"if true then begin return 1; end else begin end; ":                                         false,
	"if true then begin end else begin return 1; end; ":                                         false,
	"if true then begin end else begin end; ":                                                   false,
	"if true then begin write(1); return 1; write(2); end else begin return 1; write(1); end; ": true,
	"if true then begin " + both + "end else begin " + both + wr + "end; ":                      true,
	"if true then begin " + both + "end else begin " + noElse + "end; ":                         false,
	"if true then begin " + noElse + "end else begin " + both + "end; ":                         false,
	"if true then begin " + noElse + ret + "end else begin " + wr + both + "end; ":              true,
	"if true then begin " + both + "end; ":                                                      false,
	"while true do begin return 1; end; ":                                                       false,
	"repeat return 1; until true; ":                                                             false,
	"for vi := 1 to 2 do begin return 1; end; ":                                                 false,
	"while true do begin " + both + "end; ":                                                     false,
	"if true then begin while true do begin return 1; end; end else begin return 1; end; ":      false,
	"if true then begin return 1; end else begin repeat return 1; until true; end; ":            false,
}

func TestEnds(t *testing.T) {
	for s, want := range ending {
		p := read(t, whole(world+"| "+s))
		kept := copyOf(p)
		if got := Ends(p.Body); got != want {
			t.Errorf("%s: %t", s, got)
		}
		if !reflect.DeepEqual(p, kept) {
			t.Errorf("%s is another one behind the call", s)
		}
		if s == "return; " {
			continue
		}
		wrong := word(api.ErrReturn)
		if want {
			wrong = ""
		}
		wantTexts(t,
			world+wrong+"function z : integer; begin "+s+" end;",
			world+"procedure y; begin end; procedure z; "+wrong+"function z1 : integer; begin "+s+" end; begin end; procedure z2; begin end;")
	}
}

// Lists of which no text is.
func TestEndsOfOtherLists(t *testing.T) {
	value := []api.Stmt{{Op: api.StReturn}}
	for _, x := range []struct {
		l    []api.Stmt
		want bool
	}{
		{nil, false},
		{[]api.Stmt{}, false},
		{make([]api.Stmt, 3), false},
		{value, true},
		{[]api.Stmt{{Op: api.StReturn, E: make([]api.Expr, 3)}}, true},
		{[]api.Stmt{{Op: api.StIf, More: true, Body: value, Else: value}}, true},
		{[]api.Stmt{{Op: api.StIf, Body: value, Else: value}}, false},
		{[]api.Stmt{{Op: api.StIf, More: true, Body: value}}, false},
		{[]api.Stmt{{Op: api.StIf, More: true, Else: value}}, false},
		{[]api.Stmt{{Op: api.StIf, More: true}}, false},
		{[]api.Stmt{{Op: api.StWhile, More: true, Body: value, Else: value}}, false},
		{[]api.Stmt{{Op: api.StRepeat, More: true, Body: value, Else: value}}, false},
		{[]api.Stmt{{Op: api.StFor, More: true, Body: value, Else: value}}, false},
		{[]api.Stmt{{Op: -1, More: true, Body: value, Else: value}, {Op: 99}}, false},
		{[]api.Stmt{{Op: 99}, {Op: api.StReturn}}, true},
		{value[:0], false},
		{append([]api.Stmt{{Op: api.StWrite}}, value...)[:1], false},
	} {
		if Ends(x.l) != x.want {
			t.Errorf("%v: %t", x.l, !x.want)
		}
	}
}
