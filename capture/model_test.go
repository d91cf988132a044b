package capture

import (
	"slices"
	"strings"

	"pantograph/api"
)

// model is the chapter word by word: each routine knows the one around it, names are looked for from within outwards, and whoever calls is asked anew till nothing changes.
type model struct {
	program api.Program
	list    []*member
}

type member struct {
	*api.Routine
	around *member
	uses   []owned // what it captures, as far as is known
	calls  []*member
}

// owned is a local: its routine's, and which one.
type owned struct {
	by *member
	at int
}

func newModel(p api.Program) *model {
	w := &model{program: p}
	w.add(nil, p.Routines)
	for _, r := range w.list {
		w.body(r, r.Body)
	}
	return w
}

func (w *model) add(around *member, l []api.Routine) {
	for i := range l {
		r := &member{Routine: &l[i], around: around}
		w.list = append(w.list, r)
		w.add(r, l[i].Inner)
	}
}

func (r *member) locals() []api.Param {
	l := slices.Clone(r.Params)
	for _, v := range r.Vars {
		l = append(l, api.Param{Name: v.Name, T: v.T})
	}
	return l
}

func (w *model) body(r *member, l []api.Stmt) {
	for _, s := range l {
		if s.Op == api.StFor {
			w.use(r, s.Name)
		}
		for _, e := range append([]api.Expr{s.P}, s.E...) {
			w.expr(r, e)
		}
		w.body(r, s.Body)
		w.body(r, s.Else)
	}
}

func (w *model) expr(r *member, e api.Expr) {
	switch e.Op {
	case api.ExVar, api.ExIndex, api.ExField:
		w.use(r, e.Name)
	case api.ExCall:
		r.calls = append(r.calls, w.callee(r, e.Name))
	}
	for _, o := range e.L {
		w.expr(r, o)
	}
}

func (w *model) use(r *member, name string) {
	for o := r; o != nil; o = o.around {
		if at := slices.IndexFunc(o.locals(), func(p api.Param) bool { return p.Name == name }); at >= 0 {
			r.capture(owned{o, at})
			return
		}
	}
}

// callee looks in the routine's Inner list, in that in which it stands, and so on.
func (w *model) callee(r *member, name string) *member {
	for o := r; ; o = o.around {
		for _, k := range w.list {
			if k.around == o && k.Name == name {
				return k
			}
		}
		if o == nil {
			panic("no such routine: " + name)
		}
	}
}

func (r *member) capture(o owned) bool {
	if !r.isWithin(o.by) || slices.Contains(r.uses, o) {
		return false
	}
	r.uses = append(r.uses, o)
	return true
}

func (r *member) isWithin(o *member) bool {
	for a := r.around; a != nil; a = a.around {
		if a == o {
			return true
		}
	}
	return false
}

// round tells whether somebody captures more than before, by calling.
func (w *model) round() bool {
	more := false
	for _, r := range w.list {
		for _, c := range r.calls {
			for _, o := range slices.Clone(c.uses) {
				if r.capture(o) {
					more = true
				}
			}
		}
	}
	return more
}

func (w *model) ups() [][]api.Param {
	var l [][]api.Param
	for _, r := range w.list {
		l = append(l, told(r, r.around))
	}
	return l
}

// told begins with what lies further outside.
func told(r, of *member) []api.Param {
	if of == nil {
		return nil
	}
	l := told(r, of.around)
	for at, p := range of.locals() {
		if slices.Contains(r.uses, owned{of, at}) {
			l = append(l, api.Param{Name: p.Name, T: p.T, Mode: api.ByUp})
		}
	}
	return l
}

func (w *model) paths() []string {
	var l []string
	for _, r := range w.list {
		var names []string
		for o := r; o != nil; o = o.around {
			names = append(names, o.Name)
		}
		slices.Reverse(names)
		l = append(l, strings.Join(names, "$"))
	}
	return l
}
