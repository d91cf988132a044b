package check

import (
	"testing"

	"pantograph/api"
)

// world is what stands ahead of the expressions that are looked at.
const world = `
	type r = record i : integer; b : boolean; c : char; end;
	type s = record i : integer; b : boolean; c : char; end;
	var vi : integer; var vb : boolean; var vc : char;
	var ai : array[3] of integer; var ab : array[3] of boolean; var ac : array[3] of char; var ai2 : array[2] of integer;
	var vr : r; var vs : s;
	function fi : integer; begin return 1; end;
	function fb : boolean; begin return true; end;
	function fc : char; begin return 'a'; end;
	function one(x : integer) : integer; begin return x; end;
	procedure nothing; begin end;
	function f(a : integer; b : boolean) : integer; begin return a; end;
	procedure q(a : integer; var b : boolean); begin end;
`

// operand is an expression and what is told of it: its scalar's kind (0: it has none), or its type, or its own error.
type operand struct {
	text  string
	kind  int
	typ   string // where it is a place
	e     api.Errno
	place bool
}

var operands = []operand{
	{text: "1", kind: api.KindInt},
	{text: "true", kind: api.KindBool},
	{text: "'a'", kind: api.KindChar},
	{text: "vi", kind: api.KindInt, typ: "integer", place: true},
	{text: "vb", kind: api.KindBool, typ: "boolean", place: true},
	{text: "vc", kind: api.KindChar, typ: "char", place: true},
	{text: "ai[vi]", kind: api.KindInt, typ: "integer", place: true},
	{text: "ab[1]", kind: api.KindBool, typ: "boolean", place: true},
	{text: "ac[1]", kind: api.KindChar, typ: "char", place: true},
	{text: "vr.i", kind: api.KindInt, typ: "integer", place: true},
	{text: "vr.b", kind: api.KindBool, typ: "boolean", place: true},
	{text: "vs.c", kind: api.KindChar, typ: "char", place: true},
	{text: "ai", typ: "array[3] of integer", place: true},
	{text: "ai2", typ: "array[2] of integer", place: true},
	{text: "ab", typ: "array[3] of boolean", place: true},
	{text: "ac", typ: "array[3] of char", place: true},
	{text: "vr", typ: "r", place: true},
	{text: "vs", typ: "s", place: true},
	{text: "fi()", kind: api.KindInt},
	{text: "fb()", kind: api.KindBool},
	{text: "fc()", kind: api.KindChar},
	{text: "one(ai[1])", kind: api.KindInt},
	{text: "(vi + 1)", kind: api.KindInt},
	{text: "(vi < 1)", kind: api.KindBool},
	{text: "nope", e: api.ErrNone, place: true},
	{text: "nope[true]", e: api.ErrNone, place: true},
	{text: "nope.i", e: api.ErrNone, place: true},
	{text: "vr.nope", e: api.ErrNone, place: true},
	{text: "vi[nope]", e: api.ErrType, place: true},
	{text: "ai[vb]", e: api.ErrType, place: true},
	{text: "ai[nope]", e: api.ErrNone, place: true},
	{text: "ai.nope", e: api.ErrType, place: true},
	{text: "nope(true)", e: api.ErrNone},
	{text: "nothing(nope)", e: api.ErrType},
	{text: "one(true, nope)", e: api.ErrCount},
	{text: "one(nope)", e: api.ErrNone},
	{text: "one(vb)", e: api.ErrType},
}

func word(e api.Errno) string {
	for s, code := range codes {
		if code == e {
			return "{" + s + "} "
		}
	}
	return ""
}

// wantExpr sets an expression that has a scalar, or an error of its own, where a value may stand.
func wantExpr(t *testing.T, s string, kind int, e api.Errno) {
	t.Helper()
	wantTexts(t, world+"| "+word(e)+"write("+s+");")
	if e != api.OK {
		return
	}
	for k, place := range map[int]string{api.KindInt: "vi", api.KindBool: "vb", api.KindChar: "vc"} {
		wrong := "{type} "
		if k == kind {
			wrong = ""
		}
		wantTexts(t, world+"| "+wrong+place+" := "+s+";")
	}
}

// asked tells what is told of an operand of which a value of one of these kinds is asked.
func asked(x operand, kinds ...int) api.Errno {
	if x.e != api.OK {
		return x.e
	}
	for _, k := range kinds {
		if k == x.kind {
			return api.OK
		}
	}
	return api.ErrType
}

func firstOf(l ...api.Errno) api.Errno {
	for _, e := range l {
		if e != api.OK {
			return e
		}
	}
	return api.OK
}

func TestOperandsAlone(t *testing.T) {
	for _, x := range operands {
		wantExpr(t, x.text, x.kind, asked(x, api.KindInt, api.KindBool, api.KindChar))
	}
}

func TestSignsOfOneOperand(t *testing.T) {
	for _, x := range operands {
		wantExpr(t, "-"+x.text, api.KindInt, asked(x, api.KindInt))
		wantExpr(t, "not "+x.text, api.KindBool, asked(x, api.KindBool))
	}
}

func TestSignsOfTwoOperands(t *testing.T) {
	t.Parallel()
	const i, b, c = api.KindInt, api.KindBool, api.KindChar
	for _, l := range []struct {
		signs  []string
		kinds  []int
		result int
	}{
		{[]string{"*", "div", "mod", "+", "-"}, []int{i}, i},
		{[]string{"and", "and then", "or", "or else"}, []int{b}, b},
		{[]string{"=", "<>"}, []int{i, b, c}, b},
		{[]string{"<", "<=", ">", ">="}, []int{i, c}, b},
	} {
		for _, x := range operands {
			for n, y := range operands {
				// The first one is told, whatever the second one is.
				e := firstOf(asked(x, l.kinds...), asked(y, x.kind))
				wantExpr(t, x.text+" "+l.signs[n%len(l.signs)]+" "+y.text, l.result, e)
			}
		}
		for _, sign := range l.signs {
			for _, x := range operands[:3] {
				for _, y := range operands[:3] {
					wantExpr(t, x.text+" "+sign+" "+y.text, l.result, firstOf(asked(x, l.kinds...), asked(y, x.kind)))
				}
			}
		}
	}
}

// array is what may be said to be one: of another thing it is told ahead of what stands in the brackets.
func TestElements(t *testing.T) {
	for name, x := range map[string]operand{
		"ai": {kind: api.KindInt}, "ab": {kind: api.KindBool}, "ac": {kind: api.KindChar},
		"vi": {e: api.ErrType}, "vb": {e: api.ErrType}, "vr": {e: api.ErrType},
		"nope": {e: api.ErrNone}, "fi": {e: api.ErrNone}, "r": {e: api.ErrNone}, "p": {e: api.ErrNone},
	} {
		for _, y := range operands {
			wantExpr(t, name+"["+y.text+"]", x.kind, firstOf(x.e, asked(y, api.KindInt)))
		}
	}
}

func TestFields(t *testing.T) {
	for name, e := range map[string]api.Errno{
		"vr": api.OK, "vs": api.OK, "vi": api.ErrType, "ai": api.ErrType, "nope": api.ErrNone, "fi": api.ErrNone, "r": api.ErrNone,
	} {
		for field, x := range map[string]operand{
			"i": {kind: api.KindInt}, "b": {kind: api.KindBool}, "c": {kind: api.KindChar},
			"nope": {e: api.ErrNone}, "vi": {e: api.ErrNone}, "r": {e: api.ErrNone}, "vr": {e: api.ErrNone},
		} {
			wantExpr(t, name+"."+field, x.kind, firstOf(e, x.e))
		}
	}
	wantTexts(t,
		"type r = record a : char; end; type s = record b : char; end; var x : r; var y : s; | x.a := y.b; {none} x.b := 'a';",
		"type r = record a : char; end; type s = record a : integer; end; var x : s; | x.a := 1; {type} x.a := 'a';",
	)
}

// types are those that a parameter may have, and which operands are right for it by value.
var types = map[string]int{
	"integer": api.KindInt, "boolean": api.KindBool, "char": api.KindChar,
	"array[3] of integer": 0, "array[2] of integer": 0, "array[3] of boolean": 0, "array[3] of char": 0, "array[1] of char": 0, "r": 0, "s": 0,
}

func byRef(x operand, typ string) api.Errno {
	switch {
	case !x.place:
		return api.ErrType
	case x.e != api.OK:
		return x.e
	case x.typ != typ:
		return api.ErrType
	}
	return api.OK
}

func TestOperandsOfCalls(t *testing.T) {
	for typ, kind := range types {
		for _, x := range operands {
			e := byRef(x, typ)
			wantTexts(t,
				world+"procedure g(var x : "+typ+"); begin end; | "+word(e)+"g("+x.text+");",
				world+"function g(var x : "+typ+") : char; begin return 'a'; end; | "+word(e)+"vb := g("+x.text+") = 'b';")
			if kind != 0 {
				e = asked(x, kind)
				wantTexts(t, world+"procedure g(x : "+typ+"); begin end; | "+word(e)+"g("+x.text+");")
			}
		}
	}
}

// One by one: what is wrong of the first one is told, whatever the second one is.
func TestSeveralOperandsOfCalls(t *testing.T) {
	t.Parallel()
	for _, x := range operands {
		for _, y := range operands {
			wantTexts(t,
				world+"procedure g(x : integer; var y : boolean); begin end; | "+word(firstOf(asked(x, api.KindInt), byRef(y, "boolean")))+"g("+x.text+", "+y.text+");",
				world+"procedure g(var x : r; y : char); begin end; | "+word(firstOf(byRef(x, "r"), asked(y, api.KindChar)))+"g("+x.text+", "+y.text+");")
		}
	}
}

func TestCalls(t *testing.T) {
	for s, e := range map[string]api.Errno{
		"f(1, true)":             api.OK,
		"f(f(1, true), vb)":      api.OK,
		"f()":                    api.ErrCount,
		"f(1)":                   api.ErrCount,
		"f(nope)":                api.ErrCount,
		"f(true, 1, nope)":       api.ErrCount,
		"f(1, true, 1)":          api.ErrCount,
		"fi(1)":                  api.ErrCount,
		"f(1, f(1))":             api.ErrCount,
		"f(1, f(1, true))":       api.ErrType,
		"f(f(1), nope)":          api.ErrCount,
		"f(true, nope)":          api.ErrType,
		"f(nope, 1)":             api.ErrNone,
		"f(1, nope)":             api.ErrNone,
		"q(1, vb)":               api.ErrType,
		"q(nope)":                api.ErrType,
		"q()":                    api.ErrType,
		"nothing()":              api.ErrType,
		"f(1, nothing())":        api.ErrType,
		"nope()":                 api.ErrNone,
		"nope(f(1))":             api.ErrNone,
		"vi()":                   api.ErrNone,
		"f(1, true) + f(1, 2)":   api.ErrType,
		"ai[f(1, true)]":         api.OK,
		"ai[f(1)]":               api.ErrCount,
		"(-f(1))":                api.ErrCount,
		"(-f(nope, 1))":          api.ErrNone,
		"f(one(fi()), not fb())": api.OK,
	} {
		wantExpr(t, "0 + "+s, api.KindInt, e)
	}
	for s, e := range map[string]string{
		"q(1, vb);": "", "q(1, ab[0]);": "", "q(f(1, vb), vr.b);": "", "nothing();": "",
		"q();": "count", "q(nope);": "count", "q(1, vb, 1);": "count", "nothing(nope);": "count",
		"f(1, true);": "type", "f();": "type", "f(nope, nope);": "type", "fi();": "type", "fi(nope);": "type",
		"nope(nope);": "none", "vi(1);": "none",
		"q(true, nope);": "type", "q(nope, 1);": "none", "q(1, nope);": "none", "q(1, true);": "type", "q(1, vi);": "type", "q(1, not vb);": "type",
	} {
		if e != "" {
			e = "{" + e + "} "
		}
		wantTexts(t, world+"| "+e+s)
	}
}
