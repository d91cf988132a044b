package tree

import (
	"slices"

	"pantograph/api"
)

func SameExpr(a, b api.Expr) bool {
	return a.Op == b.Op && a.N == b.N && a.Name == b.Name && a.Field == b.Field && slices.EqualFunc(a.L, b.L, SameExpr)
}

func Same(a, b api.Program) bool {
	return a.Name == b.Name &&
		slices.Equal(a.Before, b.Before) && slices.Equal(a.Mid, b.Mid) && slices.Equal(a.After, b.After) &&
		slices.EqualFunc(a.Recs, b.Recs, sameRecord) &&
		slices.EqualFunc(a.Vars, b.Vars, sameVariable) &&
		slices.EqualFunc(a.Routines, b.Routines, sameRoutine) &&
		slices.EqualFunc(a.Body, b.Body, sameStmt) && slices.Equal(a.End, b.End)
}

func sameMarks(a, b api.Marks) bool {
	return slices.Equal(a.Before, b.Before) && slices.Equal(a.Trail, b.Trail)
}

func sameRecord(a, b api.Rec) bool {
	return sameMarks(a.Marks, b.Marks) && a.Name == b.Name &&
		slices.EqualFunc(a.Fields, b.Fields, sameField) && slices.Equal(a.End, b.End)
}

func sameField(a, b api.Field) bool {
	return sameMarks(a.Marks, b.Marks) && a.Name == b.Name && a.Kind == b.Kind
}

func sameVariable(a, b api.Var) bool {
	return sameMarks(a.Marks, b.Marks) && a.Name == b.Name && a.T == b.T
}

func sameRoutine(a, b api.Routine) bool {
	return sameMarks(a.Marks, b.Marks) && a.Name == b.Name && a.Result == b.Result &&
		slices.Equal(a.Params, b.Params) &&
		slices.EqualFunc(a.Vars, b.Vars, sameVariable) &&
		slices.EqualFunc(a.Inner, b.Inner, sameRoutine) &&
		slices.EqualFunc(a.Body, b.Body, sameStmt) && slices.Equal(a.End, b.End)
}

func sameStmt(a, b api.Stmt) bool {
	return sameMarks(a.Marks, b.Marks) && a.Op == b.Op && a.Name == b.Name &&
		SameExpr(a.P, b.P) && slices.EqualFunc(a.E, b.E, SameExpr) &&
		a.Down == b.Down && a.More == b.More &&
		slices.EqualFunc(a.Body, b.Body, sameStmt) && slices.Equal(a.End, b.End) &&
		slices.EqualFunc(a.Else, b.Else, sameStmt) && slices.Equal(a.End2, b.End2)
}
