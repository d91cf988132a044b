package exprcee

import (
	"pantograph/api"
	"pantograph/expr"
)

// reader has all of what both dialects read alike, and in it of a reader of tokens.
type reader struct {
	expr.Reader
}

func (x reader) expr() api.Expr { return x.level(orElse) }

// level reads one whose signs are of that level or tighter ones. All that stands ahead of a sign is its left operand; the right one ends ahead of the next sign that is as loose.
func (x reader) level(least int) api.Expr {
	e := x.factor()
	for {
		op := x.operation(least)
		if op == none {
			return e
		}
		e = expr.Of(op, e, x.level(binaries[op].level+1))
	}
}

func (x reader) operation(least int) int {
	some := make([]string, 0, len(binaries))
	for _, b := range binaries {
		if b.level >= least {
			some = append(some, b.sign)
		}
	}
	return operationOf(x.Take(some...))
}

func (x reader) factor() api.Expr {
	switch x.Take("-", "!", "(") {
	case "-":
		return expr.Of(api.ExNeg, x.factor())
	case "!":
		return expr.Of(api.ExNot, x.factor())
	case "(":
		e := x.expr()
		x.Need(")")
		return e
	}
	if x.Next().Kind == api.TokName {
		return x.named()
	}
	return x.Constant()
}

// named looks for a call first: all else that begins with a name has one without parts.
func (x reader) named() api.Expr {
	t := x.NeedKind(api.TokName)
	name := t.Text
	if x.Take("(") != "" {
		return api.Expr{Op: api.ExCall, Name: name, L: x.operands()}
	}
	x.RefuseParts(t)
	switch x.Take("[", ".") {
	case "[":
		e := x.expr()
		x.Need("]")
		return api.Expr{Op: api.ExIndex, Name: name, L: []api.Expr{e}}
	case ".":
		return api.Expr{Op: api.ExField, Name: name, Field: x.NeedPlain()}
	}
	return api.Expr{Op: api.ExVar, Name: name}
}

// operands are those of a call, whose ( has been taken. Behind an up stand such ones alone.
func (x reader) operands() []api.Expr {
	if x.Take(")") != "" {
		return nil
	}
	operand := reader.operand
	var list []api.Expr
	for more := true; more; more = x.Take(",") != "" {
		e := operand(x)
		if e.Op == api.ExUp {
			operand = reader.up
		}
		list = append(list, e)
	}
	x.Need(")")
	return list
}

func (x reader) operand() api.Expr {
	if x.Take("up") == "" {
		return x.expr()
	}
	return x.captured()
}

func (x reader) up() api.Expr {
	x.Need("up")
	return x.captured()
}

// captured is what stands behind the word up.
func (x reader) captured() api.Expr {
	return api.Expr{Op: api.ExUp, Name: x.NeedPlain()}
}
