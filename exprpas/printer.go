package exprpas

import (
	"math"

	"pantograph/api"
	"pantograph/sink"
	"pantograph/text"
	"pantograph/tree"
)

// The levels, from the loosest one on.
const (
	comparing = iota + 1
	adding
	multiplying
	single
)

func level(op int) int {
	switch {
	case op >= api.ExEq && op <= api.ExGe:
		return comparing
	case op >= api.ExAdd && op <= api.ExOrElse, op == api.ExNeg:
		return adding
	case op >= api.ExMul && op <= api.ExAndThen:
		return multiplying
	}
	return single
}

func Print(e api.Expr) (string, api.Errno) {
	if tree.CheckExpr(api.Pas, e) != api.OK {
		return "", api.ErrArg
	}
	p := printer{sink.New(math.MaxInt)}
	p.expr(e)
	return p.String(), api.OK
}

// printer is handed what is right of Pas alone: it need not ask again for operands that must be there.
type printer struct {
	*sink.Sink
}

func (p printer) expr(e api.Expr) {
	switch e.Op {
	case api.ExInt:
		p.Put(text.Digits(e.N))
	case api.ExBool:
		p.Put(truths[e.N])
	case api.ExChar:
		p.Put(char(e.N))
	case api.ExVar:
		p.Put(e.Name)
	case api.ExIndex:
		p.Put(e.Name, "[")
		p.expr(e.L[0])
		p.Put("]")
	case api.ExField:
		p.Put(e.Name, ".", e.Field)
	case api.ExCall:
		p.call(e)
	case api.ExNeg:
		p.Put("-")
		p.operand(e.L[0], multiplying)
	case api.ExNot:
		p.Put("not ")
		p.operand(e.L[0], single)
	default:
		p.pair(e)
	}
}

// char is one in quotes, if it can be seen there.
func char(n int64) string {
	switch {
	case n == '\'':
		return "''''"
	case n >= ' ' && n <= '~':
		return "'" + string(rune(n)) + "'"
	}
	return "#" + text.Digits(n)
}

func (p printer) call(e api.Expr) {
	p.Put(e.Name, "(")
	for i, operand := range e.L {
		if i > 0 {
			p.Put(", ")
		}
		p.expr(operand)
	}
	p.Put(")")
}

// pair asks of the left operand its own level, as operands to the left are read; but no two of those that compare stand beside each other.
func (p printer) pair(e api.Expr) {
	own := level(e.Op)
	p.operand(e.L[0], max(own, adding))
	p.Put(" ", signs[e.Op], " ")
	p.operand(e.L[1], own+1)
}

// operand stands in brackets if it is looser than its place asks for.
func (p printer) operand(e api.Expr, asked int) {
	if level(e.Op) >= asked {
		p.expr(e)
		return
	}
	p.Put("(")
	p.expr(e)
	p.Put(")")
}
