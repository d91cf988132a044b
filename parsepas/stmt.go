package parsepas

import (
	"pantograph/api"
	"pantograph/exprpas"
	"pantograph/parse"
)

// block reads statements that are so deep.
type block struct {
	reader
	deep int
}

// stmts reads as far as the word that closes them, and that word.
func (x reader) stmts(deep int, word string) ([]api.Stmt, []string) {
	return parse.Closed(x.Reader, x.Comments(), 0, word, block{x, deep}.stmt)
}

// inner are the statements within one of the block.
func (b block) inner(word string) ([]api.Stmt, []string) { return b.stmts(b.deep+1, word) }

func (b block) stmt(before []string) api.Stmt {
	b.Depth(b.deep)
	b.Item(b.Next().Pos)
	s := b.simple()
	b.Need(";")
	s.Marks = b.Marks(before)
	return s
}

func (b block) simple() api.Stmt {
	if b.Next().Kind == api.TokName {
		return b.named()
	}
	switch b.Need("if", "while", "repeat", "for", "read", "write", "return") {
	case "if":
		return b.branch()
	case "while":
		return b.while()
	case "repeat":
		return b.repeat()
	case "for":
		return b.count()
	case "read":
		return b.read()
	case "write":
		return b.write()
	case "return":
		return b.result()
	}
	return api.Stmt{}
}

func (x reader) expr() api.Expr { return x.NeedExpr(exprpas.Parse) }

// named reads what begins with a name: a call is whole, all else is set.
func (b block) named() api.Stmt {
	e := b.NeedExpr(exprpas.Named)
	if e.Op == api.ExCall {
		return api.Stmt{Op: api.StCall, E: []api.Expr{e}}
	}
	b.Need(":=")
	return api.Stmt{Op: api.StSet, P: e, E: []api.Expr{b.expr()}}
}

func (b block) branch() api.Stmt {
	s := api.Stmt{Op: api.StIf, E: []api.Expr{b.expr()}}
	b.NeedRow("then", "begin")
	s.Body, s.End = b.inner("end")
	if b.Take("else") != "" {
		s.More = true
		b.Need("begin")
		s.Else, s.End2 = b.inner("end")
	}
	return s
}

func (b block) while() api.Stmt {
	s := api.Stmt{Op: api.StWhile, E: []api.Expr{b.expr()}}
	b.NeedRow("do", "begin")
	s.Body, s.End = b.inner("end")
	return s
}

func (b block) repeat() api.Stmt {
	s := api.Stmt{Op: api.StRepeat}
	s.Body, s.End = b.inner("until")
	s.E = []api.Expr{b.expr()}
	return s
}

func (b block) count() api.Stmt {
	s := api.Stmt{Op: api.StFor, Name: b.NeedName()}
	b.Need(":=")
	from := b.expr()
	s.Down = b.Need("to", "downto") == "downto"
	s.E = []api.Expr{from, b.expr()}
	b.NeedRow("do", "begin")
	s.Body, s.End = b.inner("end")
	return s
}

func (b block) read() api.Stmt {
	b.Need("(")
	s := api.Stmt{Op: api.StRead, P: b.NeedPlace(exprpas.Named)}
	b.Need(")")
	return s
}

func (b block) write() api.Stmt {
	b.Need("(")
	s := api.Stmt{Op: api.StWrite, E: []api.Expr{b.expr()}}
	b.Need(")")
	return s
}

func (b block) result() api.Stmt {
	s := api.Stmt{Op: api.StReturn}
	if !b.Is(";") {
		s.E = []api.Expr{b.expr()}
	}
	return s
}
