package parsecee

import (
	"math/rand"
	"slices"
	"strings"
	"testing"

	"pantograph/api"
	"pantograph/lexcee"
	"pantograph/tree"
)

// grammar is the chapter's, with layer 9's expressions, a rule a line: what it makes, then what it is made of. NOTE is a comment in a line of its own, TRAIL one that is Same; INT stands for a size too; NAME has no $, PARTS has. Headings with ; behind them are left out: what may follow them is not told by the grammar alone.
const grammar = `
whole     notes program NAME ; recs vars routines notes main { stmts } notes END
notes
notes     notes NOTE
notes     notes TRAIL
trail
trail     trail TRAIL
recs
recs      recs notes struct NAME { fields notes } ; trail
fields    field
fields    fields field
field     notes scalar NAME ; trail
vars
vars      vars notes scalar NAME size ; trail
vars      vars notes NAME NAME ; trail
size
size      [ INT ]
scalar    int
scalar    bool
scalar    char
rname     NAME
rname     PARTS
routines
routines  routines notes result rname ( params ) { vars stmts } trail
result    void
result    scalar
params
params    own
params    ups
params    own , ups
own       param
own       own , param
ups       upped
ups       ups , upped
param     scalar NAME
param     scalar & NAME size
param     NAME & NAME
upped     up scalar & NAME size
upped     up NAME & NAME
stmts     rows notes
rows
rows      rows notes simple trail
simple    place = expr ;
simple    call ;
simple    if ( expr ) { stmts }
simple    if ( expr ) { stmts } else { stmts }
simple    while ( expr ) { stmts }
simple    do { stmts } until ( expr ) ;
simple    for ( NAME = expr to expr ) { stmts }
simple    for ( NAME = expr downto expr ) { stmts }
simple    get ( place ) ;
simple    get ( call ) ;
simple    put ( expr ) ;
simple    return expr ;
simple    return ;
place     NAME
place     NAME [ expr ]
place     NAME . NAME
call      rname ( )
call      rname ( exprs )
call      rname ( handed )
call      rname ( exprs , handed )
exprs     expr
exprs     exprs , expr
handed    up NAME
handed    handed , up NAME
expr      level2
expr      expr || level2
level2    level3
level2    level2 && level3
level3    level4
level3    level3 | level4
level4    level5
level4    level4 & level5
level5    level6
level5    level5 == level6
level5    level5 != level6
level6    level7
level6    level6 < level7
level6    level6 <= level7
level6    level6 > level7
level6    level6 >= level7
level7    level8
level7    level7 + level8
level7    level7 - level8
level8    factor
level8    level8 * factor
level8    level8 / factor
level8    level8 % factor
factor    - factor
factor    ! factor
factor    ( expr )
factor    INT
factor    true
factor    false
factor    CHAR
factor    place
factor    call`

type rule struct {
	makes string
	of    []string
}

func rules() map[string][]rule {
	all := map[string][]rule{}
	for line := range strings.Lines(grammar) {
		if l := strings.Fields(line); len(l) > 0 {
			all[l[0]] = append(all[l[0]], rule{l[0], l[1:]})
		}
	}
	return all
}

// state is a rule that has been gone through as far as done, begun at from.
type state struct {
	makes    string
	which    int
	done     int
	from     int
	terminal string // what is to come, if that is a token
}

// earley goes through tokens by the grammar: which may stand at each place.
type earley struct {
	rules map[string][]rule
	sets  [][]state
	seen  []map[state]bool
}

func newEarley(rules map[string][]rule) *earley {
	e := &earley{rules: rules}
	e.open()
	for i := range rules["whole"] {
		e.add(state{makes: "whole", which: i})
	}
	e.close()
	return e
}

func (e *earley) open() {
	e.sets = append(e.sets, nil)
	e.seen = append(e.seen, map[state]bool{})
}

func (e *earley) rest(s state) []string { return e.rules[s.makes][s.which].of[s.done:] }

func (e *earley) add(s state) {
	last := len(e.sets) - 1
	if rest := e.rest(s); len(rest) > 0 && len(e.rules[rest[0]]) == 0 {
		s.terminal = rest[0]
	}
	if !e.seen[last][s] {
		e.seen[last][s] = true
		e.sets[last] = append(e.sets[last], s)
	}
}

func ahead(s state) state {
	s.done++
	s.terminal = ""
	return s
}

// close adds all that follows from what stands in the last set, as often as something is new: rules that make nothing ask for that.
func (e *earley) close() {
	last := len(e.sets) - 1
	for before := -1; before != len(e.sets[last]); {
		before = len(e.sets[last])
		for i := 0; i < len(e.sets[last]); i++ {
			s := e.sets[last][i]
			rest := e.rest(s)
			if len(rest) == 0 {
				for _, waiting := range e.sets[s.from] {
					if r := e.rest(waiting); len(r) > 0 && r[0] == s.makes {
						e.add(ahead(waiting))
					}
				}
			} else if s.terminal == "" {
				for k := range e.rules[rest[0]] {
					e.add(state{makes: rest[0], which: k, from: last})
				}
			}
		}
	}
}

// mayStand are the tokens that may stand at a place.
func (e *earley) mayStand(at int) map[string]bool {
	all := map[string]bool{}
	for _, s := range e.sets[at] {
		if s.terminal != "" {
			all[s.terminal] = true
		}
	}
	return all
}

// waits: may that symbol of the rule stand at a place?
func (e *earley) waits(at int, makes, symbol string) bool {
	return slices.ContainsFunc(e.sets[at], func(s state) bool {
		rest := e.rest(s)
		return s.makes == makes && len(rest) > 0 && rest[0] == symbol
	})
}

func (e *earley) step(terminal string) {
	was := e.sets[len(e.sets)-1]
	e.open()
	for _, s := range was {
		if s.terminal == terminal {
			e.add(ahead(s))
		}
	}
	e.close()
}

func terminalOf(t api.Tok) string {
	switch t.Kind {
	case api.TokNote:
		if t.Same {
			return "TRAIL"
		}
		return "NOTE"
	case api.TokName:
		if strings.Contains(t.Text, "$") {
			return "PARTS"
		}
		return "NAME"
	case api.TokInt:
		return "INT"
	case api.TokChar:
		return "CHAR"
	case api.TokEnd:
		return "END"
	}
	return t.Text
}

// getCall is the place of the first call that is whole ahead of the token at, where get asks for a place.
func getCall(l []api.Tok, at int) (int, bool) {
	for i := 0; i+3 < at; i++ {
		if l[i].Text != "get" || l[i].Kind != api.TokWord || l[i+3].Text != "(" {
			continue
		}
		depth := 0
		for k := i + 3; k < at; k++ {
			switch {
			case l[k].Kind != api.TokSign:
			case l[k].Text == "(":
				depth++
			case l[k].Text == ")":
				if depth--; depth == 0 {
					return i + 2, true
				}
			}
		}
	}
	return 0, false
}

// refused is what is told of a token that may not stand where it does.
func refused(t api.Tok) api.Diag {
	if t.Kind == api.TokNote {
		return api.Diag{Code: api.ErrPlace, Pos: t.Pos}
	}
	return api.Diag{Code: api.ErrToken, Pos: t.Pos}
}

// modelDiag is what is told of l, at is the first token that the grammar does not take (or len(l)), as far as there e has gone through it.
func modelDiag(l []api.Tok, at int, e *earley) api.Diag {
	if call, ok := getCall(l, at); ok {
		return api.Diag{Code: api.ErrToken, Pos: l[call].Pos}
	}
	if at == len(l) {
		return api.Diag{}
	}
	// A name with $ has been taken for one ahead of a (, but there is none: where no call and no variable may stand, that is no fault of the name's.
	if at > 0 && terminalOf(l[at-1]) == "PARTS" && (e.waits(at-1, "call", "rname") || e.waits(at-1, "vars", "NAME")) {
		return api.Diag{Code: api.ErrName, Pos: l[at-1].Pos}
	}
	behindRoutines := e.mayStand(at)["void"] && !e.mayStand(at)["NAME"]
	switch {
	case terminalOf(l[at]) == "PARTS" && (behindRoutines || e.mayStand(at)["NAME"]):
		return api.Diag{Code: api.ErrName, Pos: l[at].Pos}
	case behindRoutines && l[at].Kind == api.TokName && l[at+1].Kind != api.TokName:
		return refused(l[at+1])
	case behindRoutines && l[at].Kind == api.TokName:
		return refused(l[at+2])
	}
	return refused(l[at])
}

// isHeading: at that place the ; of a heading stands.
func isHeading(l []api.Tok, at int, e *earley) bool {
	return at < len(l) && l[at].Text == ";" && l[at].Kind == api.TokSign && e.waits(at, "routines", "{")
}

// bases have each rule of the grammar in them, so that each place is tried where a rule has one.
var bases = []string{
	"/*a*/ program p; /*b*/\n/*c*/ struct r { /*d*/ int x; /*e*/ /*f*/\n bool y; /*g*/\n/*h*/ }; /*i*/\nstruct q { char z; };\n/*j*/ int a; /*k*/\n/*l*/ int b[3]; r c; /*m*/ main { /*n*/ put(1); /*o*/\n/*p*/ } /*q*/ /*r*/",
	"program p; void f() { } /*a*/\n/*b*/ void g$h(int x, r &y, bool &z[2], up int &i, up r &j) { char v; /*c*/\n/*d*/ q w; bool a[4]; /*e*/ return; /*f*/ } char i(up char &t[1]) { int u; u = 1; return 'a'; /*h*/ } /*i*/\nbool k$l$m(int a) { f(); return true; } main { }",
	"program p; int v; void f() { r x; x.y = 1; } int g() { a[1] = 2; } main { }",
	"program p; main { a = 1; a[1] = b; a.c = d; f(); f$g(1, x, up y); /*a*/\n if (a) { /*b*/ put(1); } if (a) { } else { /*c*/ b = 2; /*d*/\n/*e*/ } /*s*/ while (a) { /*f*/ } do { /*g*/ a = 1; /*h*/ } until (b); /*i*/\n for (k = 1 to 2) { /*j*/ } for (k = 2 downto 1) { get(a); } get(a[1]); get(a.b); put(a); return; return b; }",
	"program p; main { a = -1 + 2 * (b - c[4]) <= f$h(g(), -x.y, up z, up w) ; put(!a && b || (c | d & e) && true); return 'x' == '\\x10'; }",
	"program p; void f$g() { do { while (a) { for (i = 1 to 2) { if (a) { } else { do { } until (b); } } } } until (c); } main { f$g(); }",
}

// vocabulary has each token of the language.
func vocabulary() []string {
	return strings.Fields("bool char do downto else false for get if int main program put return struct to true until up void while " +
		"zz zz$y 7 'c' && || == != <= >= = < > + - * / % & | ! ( ) [ ] { } ; , . /*n*/")
}

// sound goes through a base, whose tokens are all taken.
func sound(t *testing.T, rules map[string][]rule, s string) ([]api.Tok, *earley) {
	t.Helper()
	l, d := lexcee.All(s)
	if d.Code != api.OK {
		t.Fatal(s, d)
	}
	e := newEarley(rules)
	for i, tok := range l {
		if !e.mayStand(i)[terminalOf(tok)] {
			t.Fatalf("the grammar doesn't take %v of %s", tok, s)
		}
		e.step(terminalOf(tok))
	}
	if p, d := Read(s); d != (api.Diag{}) || tree.Check(api.Cee, p) != api.OK {
		t.Fatal(s, d)
	}
	return l, e
}

// wantDiag holds Read of s, whose first at tokens are those of a base, against what the grammar takes at the next one.
func wantDiag(t *testing.T, s string, at int, e *earley) {
	t.Helper()
	l, d := lexcee.All(s)
	if d.Code != api.OK {
		t.Fatal(s, d)
	}
	if e.mayStand(at)[terminalOf(l[at])] || isHeading(l, at, e) {
		return
	}
	want := modelDiag(l, at, e)
	if p, d := Read(s); d != want || !tree.Same(p, api.Program{}) {
		t.Fatalf("Read(%s) = %v, want %v", s, d, want)
	}
	if len(Items(s)) != 0 {
		t.Fatal(s)
	}
}

// TestEachTokenAtEachPlace tries all tokens ahead of each one of the bases, and the end: what may not stand there is told there.
func TestEachTokenAtEachPlace(t *testing.T) {
	rules := rules()
	for _, s := range bases {
		l, e := sound(t, rules, s)
		for at, tok := range l {
			ahead := strings.TrimRight(s[:tok.Pos.At], " \n")
			for _, w := range vocabulary() {
				wantDiag(t, ahead+" "+w+" "+s[tok.Pos.At:], at, e)
				wantDiag(t, ahead+"\n"+w, at, e)
			}
			wantDiag(t, ahead, at, e)
		}
	}
}

// TestModelOfBrokenPrograms goes through programs with some tokens changed, by the grammar, as far as it takes them.
func TestModelOfBrokenPrograms(t *testing.T) {
	rnd := rand.New(rand.NewSource(114))
	rules := rules()
	words := vocabulary()
	fine := 0
	for range 3000 {
		s := (&writer{Rand: rnd}).program(maker{rnd, rnd.Intn(2) == 0}.program())
		if rnd.Intn(2) == 0 {
			s = bases[rnd.Intn(len(bases))]
		}
		l, d := lexcee.All(s)
		if d.Code != api.OK {
			t.Fatal(s, d)
		}
		if len(l) > 150 {
			continue
		}
		for range rnd.Intn(3) {
			at := l[rnd.Intn(len(l))].Pos.At
			s = s[:at] + " " + words[rnd.Intn(len(words))] + " " + s[at:]
			l, _ = lexcee.All(s)
		}
		e := newEarley(rules)
		at := 0
		for at < len(l) && e.mayStand(at)[terminalOf(l[at])] {
			e.step(terminalOf(l[at]))
			at++
		}
		if isHeading(l, at, e) {
			continue
		}
		want := modelDiag(l, at, e)
		if _, d := Read(s); d != want {
			t.Fatalf("Read(%s) = %v, want %v", s, d, want)
		}
		if want.Code == api.OK {
			fine++
		}
	}
	if fine < 300 {
		t.Fatal(fine)
	}
}

// The model's own examples: were it wrong, it would prove nothing.
func TestModelItself(t *testing.T) {
	e := newEarley(rules())
	last := func() (l []string) {
		for s := range e.mayStand(len(e.sets) - 1) {
			l = append(l, s)
		}
		slices.Sort(l)
		return l
	}
	for _, x := range []struct{ steps, want string }{
		{"program NAME ;", "NAME NOTE TRAIL bool char int main struct void"},
		{"int", "NAME PARTS"}, {"NAME", "( ; ["}, {"; void", "NAME PARTS"}, {"PARTS", "("}, {"( )", "{"},
		{"{ NOTE", "NAME NOTE PARTS TRAIL bool char do for get if int put return while }"}, {"NAME", "( . = NAME ["}, {"NAME ;", "NAME NOTE PARTS TRAIL bool char do for get if int put return while }"},
		{"return ; TRAIL", "NAME NOTE PARTS TRAIL do for get if put return while }"}, {"}", "NOTE TRAIL bool char int main void"},
	} {
		for _, s := range strings.Fields(x.steps) {
			if !e.mayStand(len(e.sets) - 1)[s] {
				t.Fatal(s)
			}
			e.step(s)
		}
		if got := strings.Join(last(), " "); got != x.want {
			t.Fatal(x.steps, got)
		}
	}
}
