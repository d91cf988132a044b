package check

import "pantograph/api"

func (b *block) stmts(l []api.Stmt) api.Errno {
	for i := range l {
		if e := b.stmt(&l[i]); e != api.OK {
			return e
		}
	}
	return api.OK
}

func (b *block) stmt(s *api.Stmt) api.Errno {
	b.item++
	if e := b.head(s); e != api.OK {
		return e
	}
	if e := b.stmts(s.Body); e != api.OK {
		return e
	}
	return b.stmts(s.Else)
}

// head looks at a statement but for those within it.
func (b *block) head(s *api.Stmt) api.Errno {
	switch s.Op {
	case api.StSet:
		kind, e := b.value(&s.P, api.KindInt, api.KindBool, api.KindChar)
		if e != api.OK {
			return e
		}
		return b.alike(s.E, kind)
	case api.StCall:
		return b.calls(s.E)
	case api.StIf, api.StWhile, api.StRepeat:
		return b.alike(s.E, api.KindBool)
	case api.StFor:
		return b.counter(s)
	case api.StRead:
		_, e := b.value(&s.P, api.KindInt, api.KindChar)
		return e
	case api.StWrite:
		return b.alike(s.E, api.KindInt, api.KindBool, api.KindChar)
	case api.StReturn:
		if (len(s.E) > 0) != (b.result != 0) {
			return api.ErrReturn
		}
		return b.alike(s.E, b.result)
	}
	return api.ErrType
}

func (b *block) counter(s *api.Stmt) api.Errno {
	t, e := b.variable(s.Name)
	if e != api.OK {
		return e
	}
	if t != scalar(api.KindInt) {
		return api.ErrType
	}
	return b.alike(s.E, api.KindInt)
}

func (b *block) calls(l []api.Expr) api.Errno {
	for i := range l {
		if _, e := b.call(&l[i], false); e != api.OK {
			return e
		}
	}
	return api.OK
}
