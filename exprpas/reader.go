package exprpas

import (
	"pantograph/api"
	"pantograph/expr"
)

// reader has all of what both dialects read alike, and in it of a reader of tokens.
type reader struct {
	expr.Reader
}

func (x reader) expr() api.Expr {
	e := x.simple()
	if op := x.operation("=", "<>", "<", "<=", ">", ">="); op != none {
		e = expr.Of(op, e, x.simple())
	}
	return e
}

func (x reader) simple() api.Expr {
	return x.row(x.first(), reader.term, "+", "-", "or")
}

// first is the term with which a row of them begins: it alone may have a sign of its own.
func (x reader) first() api.Expr {
	if x.Take("-") == "" {
		return x.term()
	}
	return expr.Of(api.ExNeg, x.term())
}

func (x reader) term() api.Expr {
	return x.row(x.factor(), reader.factor, "*", "div", "mod", "and")
}

// row goes on behind e with signs and operands, as many as follow: all that stands ahead of a sign is its left one.
func (x reader) row(e api.Expr, operand func(reader) api.Expr, some ...string) api.Expr {
	for {
		op := x.operation(some...)
		if op == none {
			return e
		}
		e = expr.Of(op, e, operand(x))
	}
}

// operation takes one of some signs, and the word behind it that makes another one of it.
func (x reader) operation(some ...string) int {
	sign := x.Take(some...)
	switch {
	case sign == "or" && x.Take("else") != "":
		return api.ExOrElse
	case sign == "and" && x.Take("then") != "":
		return api.ExAndThen
	}
	return operationOf(sign)
}

func (x reader) factor() api.Expr {
	switch {
	case x.Take("not") != "":
		return expr.Of(api.ExNot, x.factor())
	case x.Take("(") != "":
		e := x.expr()
		x.Need(")")
		return e
	case x.Next().Kind == api.TokName:
		return x.named()
	}
	return x.Constant()
}

func (x reader) named() api.Expr {
	name := x.NeedName()
	switch x.Take("(", "[", ".") {
	case "(":
		return api.Expr{Op: api.ExCall, Name: name, L: x.operands()}
	case "[":
		e := x.expr()
		x.Need("]")
		return api.Expr{Op: api.ExIndex, Name: name, L: []api.Expr{e}}
	case ".":
		return api.Expr{Op: api.ExField, Name: name, Field: x.NeedName()}
	}
	return api.Expr{Op: api.ExVar, Name: name}
}

// operands are those of a call, whose ( has been taken.
func (x reader) operands() []api.Expr {
	if x.Take(")") != "" {
		return nil
	}
	list := []api.Expr{x.expr()}
	for x.Take(",") != "" {
		list = append(list, x.expr())
	}
	x.Need(")")
	return list
}
