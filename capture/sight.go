package capture

import "pantograph/api"

// sight is what is visible where one looks: in a program that makes sense a name is no two of these, but for routines of one list.
type sight struct {
	*table
	local    map[string]known
	routines map[string]int
}

// known is which local a name names.
type known struct {
	row row
	set set
}

// lookAround finds out what each routine uses, and whom it calls.
func (t *table) lookAround() {
	s := &sight{table: t, local: map[string]known{}, routines: map[string]int{}}
	for n := range t.list(0, len(t.nodes)) {
		s.layRoutine(n)
	}
	for n := range t.list(0, len(t.nodes)) {
		s.routine(n)
	}
}

func (s *sight) routine(n *node) {
	s.lay(n)
	s.stmts(n, n.routine.Body)
	for k := range s.inner(n) {
		s.routine(k)
	}
	s.leave(n)
}

func (s *sight) lay(n *node) {
	for i := range n.routine.Params {
		s.layLocal(n, n.routine.Params[i].Name, i)
	}
	for i := range n.routine.Vars {
		s.layLocal(n, n.routine.Vars[i].Name, len(n.routine.Params)+i)
	}
	for k := range s.inner(n) {
		s.layRoutine(k)
	}
}

func (s *sight) layLocal(n *node, name string, i int) {
	r, one := rowOf(n.at, i)
	s.local[name] = known{r, one}
}

// layRoutine leaves a name to the first one of a list that has it.
func (s *sight) layRoutine(n *node) {
	if _, ok := s.routines[n.routine.Name]; !ok {
		s.routines[n.routine.Name] = n.at
	}
}

func (s *sight) leave(n *node) {
	for i := range n.routine.Params {
		delete(s.local, n.routine.Params[i].Name)
	}
	for i := range n.routine.Vars {
		delete(s.local, n.routine.Vars[i].Name)
	}
	for k := range s.inner(n) {
		delete(s.routines, k.routine.Name)
	}
}

func (s *sight) stmts(n *node, l []api.Stmt) {
	for i := range l {
		x := &l[i]
		if x.Op == api.StFor {
			s.use(n, x.Name)
		}
		s.exprs(n, x.P)
		s.exprs(n, x.E...)
		s.stmts(n, x.Body)
		s.stmts(n, x.Else)
	}
}

func (s *sight) exprs(n *node, l ...api.Expr) {
	for i := range l {
		switch x := &l[i]; x.Op {
		case api.ExVar, api.ExIndex, api.ExField:
			s.use(n, x.Name)
		case api.ExCall:
			s.call(n, x.Name)
		}
		s.exprs(n, l[i].L...)
	}
}

// use knows no variable of the program: that is no routine's.
func (s *sight) use(n *node, name string) {
	if x, ok := s.local[name]; ok {
		s.capture(n, x.row, x.set)
	}
}

func (s *sight) call(n *node, name string) {
	if at, ok := s.routines[name]; ok {
		s.nodes[at].call(n)
	}
}
