// Package parse is what the readers of programs of both dialects have in common: it stands embedded in each of them.
package parse

import (
	"pantograph/api"
	"pantograph/tokens"
)

// Reader has all of a reader of tokens, and keeps where the items begin. Behind a fault it reads what is not there: whoever asks it looks for the fault first.
type Reader struct {
	*tokens.Reader
	items []api.Pos
}

// Whole is all that is told of a text.
func Whole(s string, lex func(string) ([]api.Tok, api.Diag), program func(*Reader) api.Program) (api.Program, []api.Pos, api.Diag) {
	l, d := lex(s)
	if d.Code != api.OK {
		return api.Program{}, nil, d
	}
	x := &Reader{Reader: tokens.New(l, 0)}
	p := program(x)
	if x.Failed() {
		return api.Program{}, nil, x.Fault()
	}
	return p, x.items, api.Diag{}
}

// Item: one begins there.
func (x *Reader) Item(place api.Pos) { x.items = append(x.items, place) }

// Room: may an element begin here, in a list that has so many?
func (x *Reader) Room(count int) { x.RoomAt(count, x.Next().Pos) }

// RoomAt is Room of one that has begun there.
func (x *Reader) RoomAt(count int, place api.Pos) {
	if count >= api.MaxItems {
		x.Fail(api.ErrLong, place)
	}
}

// Depth: may something begin here that is so deep?
func (x *Reader) Depth(deep int) {
	if deep > api.MaxDepth {
		x.Fail(api.ErrDeep, x.Next().Pos)
	}
}

// NeedSize reads how many elements an array has.
func (x *Reader) NeedSize() int {
	t := x.NeedKind(api.TokInt)
	if t.N < 1 || t.N > api.MaxSize {
		x.Fail(api.ErrNumber, t.Pos)
	}
	return int(t.N)
}

// NeedPlace reads what begins with a name, by the call that reads all such: a call is no place.
func (x *Reader) NeedPlace(named func([]api.Tok, int) (api.Expr, int, api.Diag)) api.Expr {
	first := x.Next().Pos
	e := x.NeedExpr(named)
	if e.Op == api.ExCall {
		x.Fail(api.ErrToken, first)
	}
	return e
}
