package check

import "pantograph/api"

func (s *scope) program(p *api.Program) api.Errno {
	b := &block{scope: s}
	for i := range p.Recs {
		if e := b.record(&p.Recs[i]); e != api.OK {
			return e
		}
	}
	return b.inside(p.Vars, p.Routines, p.Body)
}

func (b *block) record(r *api.Rec) api.Errno {
	b.item++
	fields := map[string]int{}
	for i := range r.Fields {
		fields[r.Fields[i].Name] = r.Fields[i].Kind
	}
	if b.sees(r.Name, aRecord) || len(fields) < len(r.Fields) {
		return api.ErrTwice
	}
	b.lay(r.Name, aRecord, thing{fields: fields})
	return api.OK
}

// inside lays the routines ahead of the variables, whose names they may not have.
func (b *block) inside(vars []api.Var, routines []api.Routine, body []api.Stmt) api.Errno {
	b.layRoutines(routines)
	for i := range vars {
		b.item++
		if e := b.local(vars[i].Name, aVariable, vars[i].T); e != api.OK {
			return e
		}
	}
	for i := range routines {
		if e := b.routine(&routines[i]); e != api.OK {
			return e
		}
	}
	return b.stmts(body)
}

// local is a variable or a parameter: all that its name may not name is laid when it is its turn, and nothing else.
func (b *block) local(name string, kind int, t api.Type) api.Errno {
	if b.sees(name, aRecord, aVariable, aParameter, aRoutine) {
		return api.ErrTwice
	}
	if t.Kind == api.KindRec && !b.sees(t.Name, aRecord) {
		return api.ErrNone
	}
	b.lay(name, kind, thing{typ: t})
	return api.OK
}

func (b *block) routine(r *api.Routine) api.Errno {
	b.item++
	if b.taken(r) {
		return api.ErrTwice
	}
	in := b.inner(r.Result)
	for i := range r.Params {
		if e := in.local(r.Params[i].Name, aParameter, r.Params[i].T); e != api.OK {
			return e
		}
	}
	if r.Result != 0 && !Ends(r.Body) {
		return api.ErrReturn
	}
	e := in.inside(r.Vars, r.Inner, r.Body)
	in.leave()
	return e
}
