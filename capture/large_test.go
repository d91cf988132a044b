package capture

import (
	"strconv"
	"testing"

	"pantograph/api"
)

const deep = 1<<16 - 8

var integer = api.Type{Kind: api.KindInt}

func use(name string) api.Expr { return api.Expr{Op: api.ExVar, Name: name} }

func assign(name string) api.Stmt {
	return api.Stmt{Op: api.StSet, P: use(name), E: []api.Expr{{Op: api.ExInt}}}
}

func call(name string) api.Stmt {
	return api.Stmt{Op: api.StCall, E: []api.Expr{{Op: api.ExCall, Name: name}}}
}

func vars(prefix string, n int) []api.Var {
	l := make([]api.Var, n)
	for i := range l {
		l[i] = api.Var{Name: prefix + name(i), T: integer}
	}
	return l
}

// around is a program with one routine of those locals, and within it those routines.
func around(vars []api.Var, inner ...api.Routine) api.Program {
	return api.Program{Routines: []api.Routine{{Name: "f", Vars: vars, Inner: inner}}}
}

func wantCaptured(t *testing.T, p api.Program, of int, names ...string) {
	t.Helper()
	ups := Ups(p)
	if len(ups) <= of || len(ups[of]) != len(names) {
		t.Fatal(len(ups), of, len(names))
	}
	for i, u := range ups[of] {
		if u.Name != names[i] {
			t.Fatal(u, i, names[i])
		}
	}
}

// As deep as the bound is: the innermost one of what stands within one another names a local.
func TestDeepExpressions(t *testing.T) {
	t.Parallel()
	id := api.Routine{Name: "id", Result: api.KindInt, Params: []api.Param{{Name: "k", T: integer}}, Body: []api.Stmt{{Op: api.StReturn, E: []api.Expr{use("k")}}}}
	row := api.Var{Name: "row", T: api.Type{Kind: api.KindInt, Size: 3}}
	for _, within := range []func(api.Expr) api.Expr{
		func(e api.Expr) api.Expr { return api.Expr{Op: api.ExNeg, L: []api.Expr{e}} },
		func(e api.Expr) api.Expr { return api.Expr{Op: api.ExAdd, L: []api.Expr{e, {Op: api.ExInt}}} },
		func(e api.Expr) api.Expr { return api.Expr{Op: api.ExMul, L: []api.Expr{{Op: api.ExInt}, e}} },
		func(e api.Expr) api.Expr { return api.Expr{Op: api.ExIndex, Name: "row", L: []api.Expr{e}} },
		func(e api.Expr) api.Expr { return api.Expr{Op: api.ExCall, Name: "id", L: []api.Expr{e}} },
	} {
		e := use("x")
		for range deep {
			e = within(e)
		}
		g := api.Routine{Name: "g", Vars: []api.Var{row}, Body: []api.Stmt{{Op: api.StWrite, E: []api.Expr{e}}}}
		wantCaptured(t, around([]api.Var{{Name: "x", T: integer}}, g, id), 1, "x")
	}
}

func TestDeepStatements(t *testing.T) {
	t.Parallel()
	for _, inElse := range []bool{false, true} {
		for _, op := range []int{api.StIf, api.StWhile, api.StRepeat} {
			l := []api.Stmt{assign("x")}
			for range deep {
				s := api.Stmt{Op: op, E: []api.Expr{{Op: api.ExBool}}, Body: l}
				if inElse && op == api.StIf {
					s.More, s.Body, s.Else = true, nil, l
				}
				l = []api.Stmt{s}
			}
			wantCaptured(t, around(vars("", 2), api.Routine{Name: "g", Vars: []api.Var{{Name: "x", T: integer}}, Inner: []api.Routine{{Name: "h", Body: l}}}), 2, "x")
		}
	}
}

// Each routine calls the one within it, and the innermost one names a local of the outermost one.
func TestDeepRoutines(t *testing.T) {
	t.Parallel()
	innermost := name(0)
	l := []api.Routine{{Name: innermost, Body: []api.Stmt{assign("x")}}}
	for i := 1; i < deep; i++ {
		l = []api.Routine{{Name: name(i), Vars: []api.Var{{Name: "v" + name(i), T: integer}}, Inner: l, Body: []api.Stmt{call(name(i - 1))}}}
	}
	l[0].Vars = []api.Var{{Name: "x", T: integer}, {Name: "y", T: integer}}
	ups := Ups(api.Program{Routines: l})
	if len(ups) != deep || len(ups[0]) != 0 {
		t.Fatal(len(ups))
	}
	for i, u := range ups[1:] {
		if len(u) != 1 || u[0] != (api.Param{Name: "x", T: integer, Mode: api.ByUp}) {
			t.Fatal(i, u)
		}
	}
}

// Each has a local, and the innermost one names them all.
func TestLocalsOfDeepRoutines(t *testing.T) {
	t.Parallel()
	const depth = 1 << 11
	var body []api.Stmt
	for i := range depth {
		body = append(body, assign("v"+name(i)))
	}
	l := []api.Routine{{Name: "g", Body: body}}
	for i := range depth {
		inner := l[0].Name
		l = []api.Routine{{Name: name(i), Vars: []api.Var{{Name: "v" + name(i), T: integer}}, Inner: l, Body: []api.Stmt{call(inner)}}}
	}
	p := api.Program{Routines: l}
	ups, paths := Ups(p), Paths(p)
	path := ""
	for i := range depth {
		if len(ups[i]) != i {
			t.Fatal(i, len(ups[i]))
		}
		for k, u := range ups[i] {
			if u.Name != "v"+name(depth-1-k) {
				t.Fatal(i, k, u)
			}
		}
		path += name(depth - 1 - i)
		if paths[i] != path {
			t.Fatal(i, len(path), len(paths[i]))
		}
		path += "$"
	}
	if len(ups) != depth+1 || len(ups[depth]) != depth || len(paths) != depth+1 || paths[depth] != path+"g" {
		t.Fatal(len(ups), len(paths))
	}
}

// ring is a list of routines each of which calls the next one, and the last one the first.
func ring(n, step int) []api.Routine {
	l := make([]api.Routine, n)
	for i := range l {
		l[i] = api.Routine{Name: name(i), Body: []api.Stmt{call(name((i + step + n) % n))}}
	}
	return l
}

func TestLongRounds(t *testing.T) {
	t.Parallel()
	const n = 1 << 16
	for _, step := range []int{1, -1} {
		for _, at := range []int{0, n / 2, n - 1} {
			l := ring(n, step)
			l[at].Body = append(l[at].Body, assign("n1"), assign("n0"), assign("n1"))
			p := around(vars("", 0), l...)
			p.Routines[0].Vars = []api.Var{{Name: "n1", T: integer}, {Name: "n2", T: integer}, {Name: "n0", T: integer}}
			for i := range l {
				l[i].Name = "r" + l[i].Name
				l[i].Body[0].E[0].Name = "r" + l[i].Body[0].E[0].Name
			}
			ups := Ups(p)
			if len(ups) != n+1 || len(Paths(p)) != n+1 {
				t.Fatal(len(ups))
			}
			for i, u := range ups[1:] {
				if len(u) != 2 || u[0].Name != "n1" || u[1].Name != "n0" {
					t.Fatal(step, at, i, u)
				}
			}
		}
	}
}

// As many as a list may hold: each routine calls all of its list and names a local of its own choice.
func TestManyThatCallEachOther(t *testing.T) {
	t.Parallel()
	l := make([]api.Routine, api.MaxItems)
	for i := range l {
		l[i] = api.Routine{Name: name(i), Body: []api.Stmt{assign("v" + name(api.MaxItems-1-i))}}
		for k := range l {
			l[i].Body = append(l[i].Body, call(name(k)))
		}
	}
	p := around(vars("v", api.MaxItems), l...)
	ups, paths := Ups(p), Paths(p)
	for i, u := range ups[1:] {
		if len(u) != api.MaxItems || paths[i+1] != "f$"+name(i) {
			t.Fatal(i, len(u), paths[i+1])
		}
		for k := range u {
			if u[k] != (api.Param{Name: "v" + name(k), T: integer, Mode: api.ByUp}) {
				t.Fatal(i, k, u[k])
			}
		}
	}
	// A chain, each of which names one more.
	for i := range l {
		l[i].Body = l[i].Body[:1]
		if i > 0 {
			l[i].Body = append(l[i].Body, call(name(i-1)))
		}
	}
	for i, u := range Ups(p)[1:] {
		if len(u) != i+1 || u[0].Name != "v"+name(api.MaxItems-1-i) {
			t.Fatal(i, len(u))
		}
	}
}

// More locals than a list of a tree that is right may have, parameters and variables.
func TestManyLocals(t *testing.T) {
	t.Parallel()
	const n = 1 << 15
	var body []api.Stmt
	var want []string
	p := around(vars("v", n), api.Routine{Name: "g", Body: []api.Stmt{call("h")}}, api.Routine{Name: "h"})
	for i := range n {
		p.Routines[0].Params = append(p.Routines[0].Params, api.Param{Name: "p" + strconv.Itoa(i), T: integer, Mode: i % 2})
		body = append(body, assign("p"+strconv.Itoa(n-1-i)), assign("v"+name(n-1-i)))
		want = append(want, "p"+strconv.Itoa(i))
	}
	for i := range n {
		want = append(want, "v"+name(i))
	}
	p.Routines[0].Inner[1].Body = body
	wantCaptured(t, p, 1, want...)
	wantCaptured(t, p, 2, want...)
	wantCaptured(t, p, 0)
}

// All lists full, and as deep as a program may be: what is right of Pas at its largest.
func TestLargestPrograms(t *testing.T) {
	t.Parallel()
	var l []api.Routine
	for d := api.MaxDepth - 1; d >= 0; d-- {
		prefix := "d" + strconv.Itoa(d)
		list := make([]api.Routine, api.MaxItems)
		for i := range list {
			list[i] = api.Routine{Name: prefix + name(i), Body: []api.Stmt{call(prefix + name((i+1)%len(list)))}}
		}
		list[7].Vars = vars("v"+prefix, 8)
		list[7].Inner = l
		if l != nil {
			list[7].Body = append(list[7].Body, call(l[0].Name))
		}
		l = list
	}
	innermost := &l[7]
	for innermost.Inner != nil {
		innermost = &innermost.Inner[7]
	}
	for d := range api.MaxDepth {
		innermost.Body = append(innermost.Body, assign("vd"+strconv.Itoa(d)+name(d%8)))
	}
	p := api.Program{Routines: l}
	ups, paths := Ups(p), Paths(p)
	if len(ups) != api.MaxDepth*api.MaxItems || len(paths) != len(ups) {
		t.Fatal(len(ups), len(paths))
	}
	for d := range api.MaxDepth {
		at := 8 * d
		u := ups[at]
		if len(u) != d || paths[at][len(paths[at])-len("n0"):] != "n0" {
			t.Fatal(d, u, paths[at])
		}
		for k := range u {
			if u[k].Name != "vd"+strconv.Itoa(k)+name(k%8) {
				t.Fatal(d, k, u[k])
			}
		}
	}
}
