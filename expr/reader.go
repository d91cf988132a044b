// Package expr is what the expressions of both dialects have in common, read and printed: layers 8 and 9 are built on it.
package expr

import (
	"pantograph/api"
	"pantograph/tokens"
)

// truths are the words of 0 and 1.
var truths = [...]string{"false", "true"}

// Reader has all of a reader of tokens, and knows where it began. Behind a fault it reads what is not there: whoever asks it looks for the fault first.
type Reader struct {
	*tokens.Reader
	from  int
	first api.Pos
}

func NewReader(list []api.Tok, at int) Reader {
	all := tokens.New(list, at)
	return Reader{all, at, all.Next().Pos}
}

// Of is an operation with its operands.
func Of(op int, operands ...api.Expr) api.Expr {
	return api.Expr{Op: op, L: operands}
}

func (r Reader) Constant() api.Expr {
	if t, ok := r.TakeKind(api.TokInt); ok {
		return api.Expr{Op: api.ExInt, N: t.N}
	}
	if t, ok := r.TakeKind(api.TokChar); ok {
		return api.Expr{Op: api.ExChar, N: t.N}
	}
	for n, word := range truths {
		if r.Take(word) != "" {
			return api.Expr{Op: api.ExBool, N: int64(n)}
		}
	}
	r.Refuse()
	return api.Expr{}
}

// Answer is what is told of e, all that was read. It is held against the limits only here: a token that may not stand there is told ahead of them.
func (r Reader) Answer(e api.Expr) (api.Expr, int, api.Diag) {
	d := r.Fault()
	if d.Code == api.OK {
		d = beyondLimits(e, r.first)
	}
	if d.Code != api.OK {
		return api.Expr{}, r.from, d
	}
	return e, r.At(), api.Diag{}
}

func beyondLimits(e api.Expr, place api.Pos) api.Diag {
	deep, long := measure(e)
	switch {
	case long > api.MaxItems:
		return api.Diag{Code: api.ErrLong, Pos: place}
	case deep > api.MaxDepth:
		return api.Diag{Code: api.ErrDeep, Pos: place}
	}
	return api.Diag{}
}

// measure is how deep an expression is, and how many operands the longest call in it has. It goes inwards row by row rather than call by call: signs beside each other are as deep a tree as there are tokens.
func measure(e api.Expr) (deep, long int) {
	for row := []api.Expr{e}; len(row) > 0; deep++ {
		var inner []api.Expr
		for _, x := range row {
			if x.Op == api.ExCall {
				long = max(long, len(x.L))
			}
			inner = appendCounted(inner, x.L)
		}
		row = inner
	}
	return deep, long
}

// appendCounted leaves out what isn't counted for the depth.
func appendCounted(row, operands []api.Expr) []api.Expr {
	for _, x := range operands {
		if x.Op != api.ExUp {
			row = append(row, x)
		}
	}
	return row
}

// Read reads a text that is one expression as a whole.
func Read(s string, lex func(string) ([]api.Tok, api.Diag), parse func([]api.Tok, int) (api.Expr, int, api.Diag)) (api.Expr, api.Diag) {
	l, d := lex(s)
	if d.Code != api.OK {
		return api.Expr{}, d
	}
	e, next, d := parse(l, 0)
	if d.Code != api.OK {
		return api.Expr{}, d
	}
	behind := tokens.New(l, next)
	behind.NeedEnd()
	if behind.Failed() {
		return api.Expr{}, behind.Fault()
	}
	return e, api.Diag{}
}
