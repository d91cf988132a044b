package check

import "pantograph/api"

func scalar(kind int) api.Type { return api.Type{Kind: kind} }

// typeOf tells a type too where it tells an error; nobody asks for it there.
func (s *scope) typeOf(x *api.Expr) (api.Type, api.Errno) {
	switch x.Op {
	case api.ExInt:
		return scalar(api.KindInt), api.OK
	case api.ExBool:
		return scalar(api.KindBool), api.OK
	case api.ExChar:
		return scalar(api.KindChar), api.OK
	case api.ExVar:
		return s.variable(x.Name)
	case api.ExIndex:
		return s.element(x)
	case api.ExField:
		return s.field(x)
	case api.ExCall:
		return s.call(x, true)
	case api.ExNeg, api.ExMul, api.ExDiv, api.ExMod, api.ExAdd, api.ExSub:
		return scalar(api.KindInt), s.alike(x.L, api.KindInt)
	case api.ExNot, api.ExAnd, api.ExAndThen, api.ExOr, api.ExOrElse:
		return scalar(api.KindBool), s.alike(x.L, api.KindBool)
	case api.ExEq, api.ExNe:
		return scalar(api.KindBool), s.alike(x.L, api.KindInt, api.KindBool, api.KindChar)
	case api.ExLt, api.ExLe, api.ExGt, api.ExGe:
		return scalar(api.KindBool), s.alike(x.L, api.KindInt, api.KindChar)
	}
	return api.Type{}, api.ErrType
}

func (s *scope) variable(name string) (api.Type, api.Errno) {
	x, ok := s.find(name, aVariable, aParameter)
	if !ok {
		return api.Type{}, api.ErrNone
	}
	return x.typ, api.OK
}

func (s *scope) element(x *api.Expr) (api.Type, api.Errno) {
	t, e := s.variable(x.Name)
	if e != api.OK {
		return t, e
	}
	if t.Size == 0 {
		return t, api.ErrType
	}
	return scalar(t.Kind), s.alike(x.L, api.KindInt)
}

func (s *scope) field(x *api.Expr) (api.Type, api.Errno) {
	t, e := s.variable(x.Name)
	if e != api.OK {
		return t, e
	}
	if t.Kind != api.KindRec {
		return t, api.ErrType
	}
	r, _ := s.find(t.Name, aRecord)
	kind, ok := r.fields[x.Field]
	if !ok {
		return t, api.ErrNone
	}
	return scalar(kind), api.OK
}

// call is asked for a value or, by a statement, for none.
func (s *scope) call(x *api.Expr, valued bool) (api.Type, api.Errno) {
	f, ok := s.find(x.Name, aRoutine)
	if !ok {
		return api.Type{}, api.ErrNone
	}
	r := f.routine
	if (r.Result != 0) != valued {
		return api.Type{}, api.ErrType
	}
	if len(x.L) != len(r.Params) {
		return api.Type{}, api.ErrCount
	}
	for i := range x.L {
		if e := s.operand(&x.L[i], &r.Params[i]); e != api.OK {
			return api.Type{}, e
		}
	}
	return scalar(r.Result), api.OK
}

func (s *scope) operand(x *api.Expr, p *api.Param) api.Errno {
	if p.Mode == api.ByValue {
		_, e := s.value(x, p.T.Kind)
		return e
	}
	if !isPlace(x) {
		return api.ErrType
	}
	t, e := s.typeOf(x)
	if e == api.OK && t != p.T {
		return api.ErrType
	}
	return e
}

func isPlace(x *api.Expr) bool {
	return x.Op == api.ExVar || x.Op == api.ExIndex || x.Op == api.ExField
}

// value asks for a scalar of one of these kinds, and tells which one.
func (s *scope) value(x *api.Expr, kinds ...int) (int, api.Errno) {
	t, e := s.typeOf(x)
	if e != api.OK {
		return 0, e
	}
	for _, kind := range kinds {
		if t == scalar(kind) {
			return kind, api.OK
		}
	}
	return 0, api.ErrType
}

// alike asks for values that are all of one kind, which is one of these.
func (s *scope) alike(l []api.Expr, kinds ...int) api.Errno {
	for i := range l {
		kind, e := s.value(&l[i], kinds...)
		if e != api.OK {
			return e
		}
		kinds = []int{kind}
	}
	return api.OK
}
