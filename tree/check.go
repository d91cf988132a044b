package tree

import (
	"math"

	"pantograph/api"
	"pantograph/note"
	"pantograph/words"
)

const mostOfChar = 255

// checker says what is right of a dialect. around: how many expressions, statements or routines stand around the one of their kind that it looks at.
type checker struct {
	dialect int
	around  int
}

func (c checker) deeper() checker { return checker{c.dialect, c.around + 1} }

// outermost is for what is no longer counted with that around it: the expressions of a statement, the statements of a routine.
func (c checker) outermost() checker { return checker{dialect: c.dialect} }

func (c checker) tooDeep() bool { return c.around >= api.MaxDepth }

func (c checker) knowsDialect() bool { return c.dialect == api.Pas || c.dialect == api.Cee }

// all looks at the length first: nobody goes through a list that is too long.
func all[T any](list []T, right func(T) bool) bool {
	if len(list) > api.MaxItems {
		return false
	}
	for _, x := range list {
		if !right(x) {
			return false
		}
	}
	return true
}

func within(n, least, most int) bool { return least <= n && n <= most }

func (c checker) name(s string) bool {
	return words.Check(s) == api.OK && !words.Is(c.dialect, s)
}

func (c checker) routineName(s string) bool {
	if c.dialect != api.Cee {
		return c.name(s)
	}
	for part := range parts(s) {
		if !c.name(part) {
			return false
		}
	}
	return true
}

func (c checker) note(s string) bool {
	_, e := note.Print(c.dialect, s)
	return e == api.OK
}

func (c checker) notes(lists ...[]string) bool {
	for _, list := range lists {
		if !all(list, c.note) {
			return false
		}
	}
	return true
}

func (c checker) marks(m api.Marks) bool { return c.notes(m.Before, m.Trail) }

func (c checker) program(p api.Program) bool {
	return c.name(p.Name) && c.notes(p.Before, p.Mid, p.After, p.End) &&
		all(p.Recs, c.record) && all(p.Vars, c.variable) &&
		c.routines(p.Routines) && all(p.Body, c.stmt)
}

func isScalar(kind int) bool { return within(kind, api.KindInt, api.KindChar) }

func (c checker) rightType(t api.Type) bool {
	if t.Kind == api.KindRec {
		return t.Size == 0 && c.name(t.Name)
	}
	return isScalar(t.Kind) && within(t.Size, 0, api.MaxSize) && t.Name == ""
}

func (c checker) record(r api.Rec) bool {
	return c.marks(r.Marks) && c.name(r.Name) && len(r.Fields) > 0 && all(r.Fields, c.field) && c.notes(r.End)
}

func (c checker) field(f api.Field) bool {
	return c.marks(f.Marks) && c.name(f.Name) && isScalar(f.Kind)
}

func (c checker) variable(v api.Var) bool {
	return c.marks(v.Marks) && c.name(v.Name) && c.rightType(v.T)
}

func (c checker) routines(list []api.Routine) bool {
	return all(list, c.routine) && haveOwnNames(list)
}

func haveOwnNames(list []api.Routine) bool {
	names := map[string]struct{}{}
	for _, r := range list {
		names[r.Name] = struct{}{}
	}
	return len(names) == len(list)
}

func (c checker) routine(r api.Routine) bool {
	return !c.tooDeep() && c.marks(r.Marks) && c.routineName(r.Name) &&
		(r.Result == 0 || isScalar(r.Result)) &&
		all(r.Params, c.param) && upsAreLast(r.Params) &&
		all(r.Vars, c.variable) &&
		(c.dialect == api.Pas || len(r.Inner) == 0) && c.deeper().routines(r.Inner) &&
		all(r.Body, c.outermost().stmt) && c.notes(r.End)
}

func (c checker) param(p api.Param) bool {
	return c.name(p.Name) && c.rightType(p.T) && c.mode(p)
}

func (c checker) mode(p api.Param) bool {
	switch p.Mode {
	case api.ByValue:
		return isScalar(p.T.Kind) && p.T.Size == 0
	case api.ByRef:
		return true
	case api.ByUp:
		return c.dialect == api.Cee
	}
	return false
}

func upsAreLast(list []api.Param) bool {
	up := false
	for _, p := range list {
		if up && p.Mode != api.ByUp {
			return false
		}
		up = p.Mode == api.ByUp
	}
	return true
}

// stmtForm is which fields of a statement its Op names: all others are zero.
type stmtForm struct {
	place       bool
	least, most int // expressions
	call        bool
	body        bool // and its End
	other       bool // More and, where that holds, Else and End2
	counts      bool // Name and Down
}

func stmtFormOf(op int) (stmtForm, bool) {
	switch op {
	case api.StSet:
		return stmtForm{place: true, least: 1, most: 1}, true
	case api.StCall:
		return stmtForm{least: 1, most: 1, call: true}, true
	case api.StIf:
		return stmtForm{least: 1, most: 1, body: true, other: true}, true
	case api.StWhile, api.StRepeat:
		return stmtForm{least: 1, most: 1, body: true}, true
	case api.StFor:
		return stmtForm{least: 2, most: 2, body: true, counts: true}, true
	case api.StRead:
		return stmtForm{place: true}, true
	case api.StWrite:
		return stmtForm{least: 1, most: 1}, true
	case api.StReturn:
		return stmtForm{most: 1}, true
	}
	return stmtForm{}, false
}

func (c checker) stmt(s api.Stmt) bool {
	f, ok := stmtFormOf(s.Op)
	return ok && !c.tooDeep() && c.marks(s.Marks) &&
		c.nameWhere(f.counts, s.Name) && (f.counts || !s.Down) &&
		c.placeWhere(f.place, s.P) &&
		within(len(s.E), f.least, f.most) && all(s.E, c.outermost().expr) &&
		(!f.call || s.E[0].Op == api.ExCall) &&
		c.blockWhere(f.body, s.Body, s.End) &&
		(f.other || !s.More) && c.blockWhere(s.More, s.Else, s.End2)
}

func (c checker) nameWhere(asked bool, s string) bool {
	if !asked {
		return s == ""
	}
	return c.name(s)
}

func (c checker) placeWhere(asked bool, e api.Expr) bool {
	if !asked {
		return SameExpr(e, api.Expr{})
	}
	return within(e.Op, api.ExVar, api.ExField) && c.outermost().expr(e)
}

func (c checker) blockWhere(asked bool, body []api.Stmt, end []string) bool {
	if !asked {
		return len(body) == 0 && len(end) == 0
	}
	return all(body, c.deeper().stmt) && c.notes(end)
}

// exprForm is which fields of an expression its Op names: all others are zero.
type exprForm struct {
	most     int64 // N is 0 to this
	name     bool
	field    bool
	operands int
}

// exprFormOf leaves out ExCall and ExUp: no other one has a name of parts, as many operands as one likes, or its place within another one alone.
func exprFormOf(op int) (exprForm, bool) {
	switch op {
	case api.ExInt:
		return exprForm{most: math.MaxInt64}, true
	case api.ExBool:
		return exprForm{most: 1}, true
	case api.ExChar:
		return exprForm{most: mostOfChar}, true
	case api.ExVar:
		return exprForm{name: true}, true
	case api.ExIndex:
		return exprForm{name: true, operands: 1}, true
	case api.ExField:
		return exprForm{name: true, field: true}, true
	case api.ExNeg, api.ExNot:
		return exprForm{operands: 1}, true
	}
	return exprForm{operands: 2}, within(op, api.ExMul, api.ExGe)
}

func (c checker) expr(e api.Expr) bool {
	if c.tooDeep() {
		return false
	}
	if e.Op == api.ExCall {
		return c.call(e)
	}
	f, ok := exprFormOf(e.Op)
	return ok && 0 <= e.N && e.N <= f.most &&
		c.nameWhere(f.name, e.Name) && c.nameWhere(f.field, e.Field) &&
		len(e.L) == f.operands && all(e.L, c.deeper().expr)
}

func (c checker) call(e api.Expr) bool {
	ups := c.firstUp(e.L)
	return e.N == 0 && e.Field == "" && c.routineName(e.Name) && len(e.L) <= api.MaxItems &&
		all(e.L[:ups], c.deeper().expr) && all(e.L[ups:], c.up)
}

// firstUp is where those begin behind which ExUp alone may stand; Pas has none.
func (c checker) firstUp(list []api.Expr) int {
	if c.dialect == api.Cee {
		for i, e := range list {
			if e.Op == api.ExUp {
				return i
			}
		}
	}
	return len(list)
}

func (c checker) up(e api.Expr) bool {
	return e.Op == api.ExUp && e.N == 0 && e.Field == "" && len(e.L) == 0 && c.name(e.Name)
}
