package parsepas

import (
	"math/rand"
	"slices"
	"strings"
	"testing"

	"pantograph/api"
	"pantograph/lexpas"
	"pantograph/tree"
)

// grammar is the chapter's, with layer 8's expressions, a rule a line: what it makes, then what it is made of. NOTE is a comment in a line of its own, TRAIL one that is Same; INT stands for a size too.
const grammar = `
whole     notes program NAME ; recs vars routines notes begin stmts end . notes END
notes
notes     notes NOTE
notes     notes TRAIL
trail
trail     trail TRAIL
recs
recs      recs notes type NAME = record fields notes end ; trail
fields    field
fields    fields field
field     notes NAME : scalar ; trail
vars
vars      vars notes var NAME : type ; trail
type      scalar
type      array [ INT ] of scalar
type      NAME
scalar    integer
scalar    boolean
scalar    char
routines
routines  routines notes heading vars routines begin stmts end ; trail
heading   procedure NAME params ;
heading   function NAME params : scalar ;
params
params    ( some )
some      param
some      some ; param
param     NAME : scalar
param     var NAME : type
stmts     rows notes
rows
rows      rows notes simple ; trail
simple    place := expr
simple    call
simple    if expr then begin stmts end
simple    if expr then begin stmts end else begin stmts end
simple    while expr do begin stmts end
simple    repeat stmts until expr
simple    for NAME := expr to expr do begin stmts end
simple    for NAME := expr downto expr do begin stmts end
simple    read ( place )
simple    read ( call )
simple    write ( expr )
simple    return expr
simple    return
place     NAME
place     NAME [ expr ]
place     NAME . NAME
call      NAME ( )
call      NAME ( operands )
operands  expr
operands  operands , expr
expr      row
expr      row compare row
compare   =
compare   <>
compare   <
compare   <=
compare   >
compare   >=
row       term
row       - term
row       row adding term
adding    +
adding    -
adding    or
adding    or else
term      factor
term      term multiply factor
multiply  *
multiply  div
multiply  mod
multiply  and
multiply  and then
factor    not factor
factor    ( expr )
factor    INT
factor    true
factor    false
factor    CHAR
factor    place
factor    call`

type rule struct {
	makes string
	of    []string
}

func rules() map[string][]rule {
	all := map[string][]rule{}
	for line := range strings.Lines(grammar) {
		if l := strings.Fields(line); len(l) > 0 {
			all[l[0]] = append(all[l[0]], rule{l[0], l[1:]})
		}
	}
	return all
}

// state is a rule that has been gone through as far as done, begun at from.
type state struct {
	makes    string
	which    int
	done     int
	from     int
	terminal string // what is to come, if that is a token
}

// earley goes through tokens by the grammar: which may stand at each place.
type earley struct {
	rules map[string][]rule
	sets  [][]state
	seen  []map[state]bool
}

func newEarley(rules map[string][]rule) *earley {
	e := &earley{rules: rules}
	e.open()
	for i := range rules["whole"] {
		e.add(state{makes: "whole", which: i})
	}
	e.close()
	return e
}

func (e *earley) open() {
	e.sets = append(e.sets, nil)
	e.seen = append(e.seen, map[state]bool{})
}

func (e *earley) rest(s state) []string { return e.rules[s.makes][s.which].of[s.done:] }

// isRule: what makes something is a rule, but for the word type, with which a record begins.
func (e *earley) isRule(s state, symbol string) bool {
	return len(e.rules[symbol]) > 0 && !(symbol == "type" && s.makes == "recs")
}

func (e *earley) add(s state) {
	last := len(e.sets) - 1
	if rest := e.rest(s); len(rest) > 0 && !e.isRule(s, rest[0]) {
		s.terminal = rest[0]
	}
	if !e.seen[last][s] {
		e.seen[last][s] = true
		e.sets[last] = append(e.sets[last], s)
	}
}

func ahead(s state) state {
	s.done++
	s.terminal = ""
	return s
}

// close adds all that follows from what stands in the last set, as often as something is new: rules that make nothing ask for that.
func (e *earley) close() {
	last := len(e.sets) - 1
	for before := -1; before != len(e.sets[last]); {
		before = len(e.sets[last])
		for i := 0; i < len(e.sets[last]); i++ {
			s := e.sets[last][i]
			rest := e.rest(s)
			if len(rest) == 0 {
				for _, waiting := range e.sets[s.from] {
					if r := e.rest(waiting); len(r) > 0 && r[0] == s.makes && e.isRule(waiting, r[0]) {
						e.add(ahead(waiting))
					}
				}
			} else if s.terminal == "" {
				for k := range e.rules[rest[0]] {
					e.add(state{makes: rest[0], which: k, from: last})
				}
			}
		}
	}
}

// mayStand are the tokens that may stand at a place.
func (e *earley) mayStand(at int) map[string]bool {
	all := map[string]bool{}
	for _, s := range e.sets[at] {
		if s.terminal != "" {
			all[s.terminal] = true
		}
	}
	return all
}

func (e *earley) step(terminal string) {
	was := e.sets[len(e.sets)-1]
	e.open()
	for _, s := range was {
		if s.terminal == terminal {
			e.add(ahead(s))
		}
	}
	e.close()
}

func terminalOf(t api.Tok) string {
	switch t.Kind {
	case api.TokNote:
		if t.Same {
			return "TRAIL"
		}
		return "NOTE"
	case api.TokName:
		return "NAME"
	case api.TokInt:
		return "INT"
	case api.TokChar:
		return "CHAR"
	case api.TokEnd:
		return "END"
	}
	return t.Text
}

// readCall is the place of the first call that is whole ahead of the token at, where read asks for a place.
func readCall(l []api.Tok, at int) (int, bool) {
	for i := 0; i+3 < at; i++ {
		if l[i].Text != "read" || l[i].Kind != api.TokWord || l[i+3].Text != "(" {
			continue
		}
		depth := 0
		for k := i + 3; k < at; k++ {
			switch {
			case l[k].Kind != api.TokSign:
			case l[k].Text == "(":
				depth++
			case l[k].Text == ")":
				if depth--; depth == 0 {
					return i + 2, true
				}
			}
		}
	}
	return 0, false
}

// modelDiag is what is told of l, at is the first token that the grammar does not take (or len(l)); mayStand what it takes at each place ahead.
func modelDiag(l []api.Tok, at int, mayStand func(int) map[string]bool) api.Diag {
	if call, ok := readCall(l, at); ok {
		return api.Diag{Code: api.ErrToken, Pos: l[call].Pos}
	}
	switch {
	case at == len(l):
		return api.Diag{}
	case l[at].Kind == api.TokNote:
		return api.Diag{Code: api.ErrPlace, Pos: l[at].Pos}
	}
	first := at
	for first > 0 && l[first-1].Kind == api.TokNote && !(l[first-1].Same && trails(l, first-1, mayStand)) {
		first--
	}
	if first < at && mayStand(first)["begin"] && !mayStand(at)["begin"] {
		return api.Diag{Code: api.ErrPlace, Pos: l[first].Pos}
	}
	return api.Diag{Code: api.ErrToken, Pos: l[at].Pos}
}

// trails: is the comment one of those behind something in its line? They come right behind its ;, all of them Same; and behind the ; of a heading, or of the program's, no var or routine would have ended.
func trails(l []api.Tok, at int, mayStand func(int) map[string]bool) bool {
	for at > 0 && l[at].Kind == api.TokNote && l[at].Same {
		at--
	}
	return l[at].Text == ";" && l[at].Kind == api.TokSign && endsItem(l, at)
}

// endsItem: the ; at that place ends a variable or a routine, if what stands ahead of it is no heading.
func endsItem(l []api.Tok, at int) bool {
	depth := 0
	for at--; at > 0; at-- {
		switch {
		case l[at].Text == ")" && l[at].Kind == api.TokSign:
			depth++
		case l[at].Text == "(" && l[at].Kind == api.TokSign:
			depth--
		case depth > 0 || l[at].Kind != api.TokWord:
		case l[at].Text == "procedure" || l[at].Text == "function" || l[at].Text == "program":
			return false
		case l[at].Text == "var" || l[at].Text == "end":
			return true
		}
	}
	return false
}

// bases have each rule of the grammar in them, so that each place is tried where a rule has one.
var bases = []string{
	"{a} program p; {b}\n{c} type r = record {d} x : integer; {e} {f}\n y : boolean; {g}\n{h} end; {i}\ntype q = record z : char; end;\n{j} var a : integer; {k}\n{l} var b : array[3] of char; var c : r; {m} begin {n} write(1); {o}\n{p} end. {q} {r}",
	"program p; procedure f; begin end; {a}\n{b} procedure g(x : integer; var y : r; var z : array[2] of boolean); var v : char; {c}\n{d} var w : q; procedure h; begin return; end; {e} {f}\n function i(var t : char) : char; {g} var u : integer; begin return 'a'; {h} end; begin {i} end; {j}\nfunction k : boolean; begin return true; end; begin end.",
	"program p; begin a := 1; a[1] := b; a.c := d; f(); f(1, x); {a}\n if a then begin {b} write(1); end; if a then begin end else begin {c} b := 2; {d}\n{e} end; while a do begin {f} end; repeat {g} a := 1; {h} until b; {i}\n for k := 1 to 2 do begin {j} end; for k := 2 downto 1 do begin read(a); end; read(a[1]); read(a.b); write(a); return; return b; end.",
	"program p; begin a := -1 + 2 * (b - c[4]) <= f(g(), -x.y) ; write(not a and then b or else (c or d) and true); return 'x' = #10; end.",
	"program p; procedure f; procedure g; procedure h; var a : char; begin repeat while a do begin for i := 1 to 2 do begin if a then begin end else begin repeat until b; end; end; end; until c; end; begin end; begin f(); end; begin end.",
}

// vocabulary has each token of the language, but for forward: what may go on with that is not told by the grammar alone.
func vocabulary() []string {
	return strings.Fields("and array begin boolean char div do downto else end false for function if integer mod not of or procedure program read record repeat return then to true type until var while write " +
		"zz 7 'c' := <> <= >= = < > + - * ( ) [ ] ; : , . {n}")
}

// sound goes through a base, whose tokens are all taken.
func sound(t *testing.T, rules map[string][]rule, s string) ([]api.Tok, *earley) {
	t.Helper()
	l, d := lexpas.All(s)
	if d.Code != api.OK {
		t.Fatal(s, d)
	}
	e := newEarley(rules)
	for i, tok := range l {
		if !e.mayStand(i)[terminalOf(tok)] {
			t.Fatalf("the grammar doesn't take %v of %s", tok, s)
		}
		e.step(terminalOf(tok))
	}
	if p, d := Read(s); d != (api.Diag{}) || tree.Check(api.Pas, p) != api.OK {
		t.Fatal(s, d)
	}
	return l, e
}

// wantDiag holds Read of s, whose first at tokens are those of a base, against what the grammar takes at the next one.
func wantDiag(t *testing.T, s string, at int, e *earley) {
	t.Helper()
	l, d := lexpas.All(s)
	if d.Code != api.OK {
		t.Fatal(s, d)
	}
	if e.mayStand(at)[terminalOf(l[at])] {
		return
	}
	want := modelDiag(l, at, e.mayStand)
	if p, d := Read(s); d != want || !tree.Same(p, api.Program{}) {
		t.Fatalf("Read(%s) = %v, want %v", s, d, want)
	}
	if len(Items(s)) != 0 {
		t.Fatal(s)
	}
}

// TestEachTokenAtEachPlace tries all tokens ahead of each one of the bases, and the end: what may not stand there is told there.
func TestEachTokenAtEachPlace(t *testing.T) {
	rules := rules()
	for _, s := range bases {
		l, e := sound(t, rules, s)
		for at, tok := range l {
			ahead := strings.TrimRight(s[:tok.Pos.At], " \n")
			for _, w := range vocabulary() {
				wantDiag(t, ahead+" "+w+" "+s[tok.Pos.At:], at, e)
				wantDiag(t, ahead+"\n"+w, at, e)
			}
			wantDiag(t, ahead, at, e)
		}
	}
}

// TestModelOfBrokenPrograms goes through programs with some tokens changed, by the grammar, as far as it takes them.
func TestModelOfBrokenPrograms(t *testing.T) {
	rnd := rand.New(rand.NewSource(104))
	rules := rules()
	words := vocabulary()
	fine := 0
	for range 3000 {
		s := (&writer{Rand: rnd}).program(maker{rnd, rnd.Intn(2) == 0}.program())
		if rnd.Intn(2) == 0 {
			s = bases[rnd.Intn(len(bases))]
		}
		l, d := lexpas.All(s)
		if d.Code != api.OK {
			t.Fatal(s, d)
		}
		if len(l) > 150 {
			continue
		}
		for range rnd.Intn(3) {
			at := l[rnd.Intn(len(l))].Pos.At
			s = s[:at] + " " + words[rnd.Intn(len(words))] + " " + s[at:]
			l, _ = lexpas.All(s)
		}
		e := newEarley(rules)
		at := 0
		for at < len(l) && e.mayStand(at)[terminalOf(l[at])] {
			e.step(terminalOf(l[at]))
			at++
		}
		want := modelDiag(l, at, e.mayStand)
		if _, d := Read(s); d != want {
			t.Fatalf("Read(%s) = %v, want %v", s, d, want)
		}
		if want.Code == api.OK {
			fine++
		}
	}
	if fine < 300 {
		t.Fatal(fine)
	}
}

// The model's own examples: were it wrong, it would prove nothing.
func TestModelItself(t *testing.T) {
	e := newEarley(rules())
	for _, s := range strings.Fields("program NAME ; procedure NAME ;") {
		if !e.mayStand(len(e.sets) - 1)[s] {
			t.Fatal(s)
		}
		e.step(s)
	}
	want := []string{"NOTE", "TRAIL", "begin", "function", "procedure", "var"}
	last := func() (l []string) {
		for s := range e.mayStand(len(e.sets) - 1) {
			l = append(l, s)
		}
		slices.Sort(l)
		return l
	}
	if got := last(); !slices.Equal(got, want) {
		t.Fatal(got)
	}
	e.step("NOTE")
	if got := last(); !slices.Equal(got, []string{"NOTE", "TRAIL", "function", "procedure", "var"}) {
		t.Fatal(got)
	}
}
