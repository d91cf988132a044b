package parsecee

import (
	"pantograph/api"
	"pantograph/exprcee"
	"pantograph/parse"
)

// block reads statements that are so deep.
type block struct {
	reader
	deep int
}

// stmts reads as far as the } that closes them, and that; ahead stands ahead of the first one.
func (x reader) stmts(ahead parse.Slot, deep int) ([]api.Stmt, []string) {
	return parse.Closed(x.Reader, ahead, 0, "}", block{x, deep}.stmt)
}

// inner are the statements within one of the block.
func (b block) inner() ([]api.Stmt, []string) {
	b.Need("{")
	return b.stmts(b.Comments(), b.deep+1)
}

func (b block) stmt(before []string) api.Stmt {
	b.Depth(b.deep)
	b.Item(b.Next().Pos)
	s := b.simple()
	s.Marks = b.Marks(before)
	return s
}

func (b block) simple() api.Stmt {
	if b.Next().Kind == api.TokName {
		return b.named()
	}
	switch b.Need("if", "while", "do", "for", "get", "put", "return") {
	case "if":
		return b.branch()
	case "while":
		return b.while()
	case "do":
		return b.repeat()
	case "for":
		return b.count()
	case "get":
		return b.get()
	case "put":
		return b.put()
	case "return":
		return b.result()
	}
	return api.Stmt{}
}

func (x reader) expr() api.Expr { return x.NeedExpr(exprcee.Parse) }

// inBrackets is an expression with ( ) around it.
func (x reader) inBrackets() []api.Expr {
	x.Need("(")
	e := x.expr()
	x.Need(")")
	return []api.Expr{e}
}

// named reads what begins with a name: a call is whole, all else is set.
func (b block) named() api.Stmt {
	e := b.NeedExpr(exprcee.Named)
	s := api.Stmt{Op: api.StCall, E: []api.Expr{e}}
	if e.Op != api.ExCall {
		b.Need("=")
		s = api.Stmt{Op: api.StSet, P: e, E: []api.Expr{b.expr()}}
	}
	b.Need(";")
	return s
}

func (b block) branch() api.Stmt {
	s := api.Stmt{Op: api.StIf, E: b.inBrackets()}
	s.Body, s.End = b.inner()
	if b.Take("else") != "" {
		s.More = true
		s.Else, s.End2 = b.inner()
	}
	return s
}

func (b block) while() api.Stmt {
	s := api.Stmt{Op: api.StWhile, E: b.inBrackets()}
	s.Body, s.End = b.inner()
	return s
}

func (b block) repeat() api.Stmt {
	s := api.Stmt{Op: api.StRepeat}
	s.Body, s.End = b.inner()
	b.Need("until")
	s.E = b.inBrackets()
	b.Need(";")
	return s
}

func (b block) count() api.Stmt {
	b.Need("(")
	s := api.Stmt{Op: api.StFor, Name: b.NeedPlain()}
	b.Need("=")
	from := b.expr()
	s.Down = b.Need("to", "downto") == "downto"
	s.E = []api.Expr{from, b.expr()}
	b.Need(")")
	s.Body, s.End = b.inner()
	return s
}

func (b block) get() api.Stmt {
	b.Need("(")
	s := api.Stmt{Op: api.StRead, P: b.NeedPlace(exprcee.Named)}
	b.NeedRow(")", ";")
	return s
}

func (b block) put() api.Stmt {
	s := api.Stmt{Op: api.StWrite, E: b.inBrackets()}
	b.Need(";")
	return s
}

func (b block) result() api.Stmt {
	s := api.Stmt{Op: api.StReturn}
	if !b.Is(";") {
		s.E = []api.Expr{b.expr()}
	}
	b.Need(";")
	return s
}
