package expr

import (
	"math"

	"pantograph/api"
	"pantograph/sink"
	"pantograph/text"
	"pantograph/tree"
)

// Sign is how an operation is written.
type Sign struct {
	Text  string
	Level int // the operation's own: the greater it is, the tighter
	// The levels that it asks of its operands: of the one ahead of it, if there is one, and of the one behind it.
	Left, Right int
}

// Style is where the dialects differ.
type Style struct {
	Sign func(op int) Sign // of what has no sign its Level alone
	Char func(n int64) string
}

func Print(dialect int, e api.Expr, style Style) (string, api.Errno) {
	if tree.CheckExpr(dialect, e) != api.OK {
		return "", api.ErrArg
	}
	p := printer{sink.New(math.MaxInt), style}
	p.expr(e)
	return p.String(), api.OK
}

// printer is handed what is right of its dialect alone: it need not ask again for operands that must be there.
type printer struct {
	*sink.Sink
	style Style
}

func (p printer) expr(e api.Expr) {
	switch e.Op {
	case api.ExInt:
		p.Put(text.Digits(e.N))
	case api.ExBool:
		p.Put(truths[e.N])
	case api.ExChar:
		p.Put(p.style.Char(e.N))
	case api.ExVar:
		p.Put(e.Name)
	case api.ExIndex:
		p.Put(e.Name, "[")
		p.expr(e.L[0])
		p.Put("]")
	case api.ExField:
		p.Put(e.Name, ".", e.Field)
	case api.ExCall:
		p.call(e)
	case api.ExUp:
		p.Put("up ", e.Name)
	case api.ExNeg, api.ExNot:
		p.ahead(e)
	default:
		p.between(e)
	}
}

func (p printer) call(e api.Expr) {
	p.Put(e.Name, "(")
	for i, operand := range e.L {
		if i > 0 {
			p.Put(", ")
		}
		p.expr(operand)
	}
	p.Put(")")
}

func (p printer) ahead(e api.Expr) {
	sign := p.style.Sign(e.Op)
	p.Put(sign.Text)
	p.operand(e.L[0], sign.Right)
}

func (p printer) between(e api.Expr) {
	sign := p.style.Sign(e.Op)
	p.operand(e.L[0], sign.Left)
	p.Put(" ", sign.Text, " ")
	p.operand(e.L[1], sign.Right)
}

// operand stands in brackets if it is looser than its place asks for.
func (p printer) operand(e api.Expr, asked int) {
	if p.style.Sign(e.Op).Level >= asked {
		p.expr(e)
		return
	}
	p.Put("(")
	p.expr(e)
	p.Put(")")
}
