package capture

import (
	"cmp"
	"math/bits"
	"slices"

	"pantograph/api"
)

// row is some of the locals of a routine: as many as a set has bits. So routines that call each other hand on many of them at once.
type row struct {
	owner, nth int
}

// set has a bit for each local of a row.
type set uint64

const rowLen = 64

// locals are those of routines around one.
type locals map[row]set

// rowOf finds the local that has this number among its routine's.
func rowOf(owner, i int) (row, set) {
	return row{owner, i / rowLen}, 1 << (i % rowLen)
}

// capture lays what a routine captures: its own locals aren't of a routine around it.
func (t *table) capture(n *node, r row, s set) {
	s &^= n.captured[r]
	if r.owner == n.at || s == 0 {
		return
	}
	if n.captured == nil {
		n.captured = locals{}
	}
	n.captured[r] |= s
	if n.fresh == nil {
		n.fresh = locals{}
		t.waiting = append(t.waiting, n.at)
	}
	n.fresh[r] |= s
}

// spread hands on to callers what is captured, till nobody captures more.
func (t *table) spread() {
	for len(t.waiting) > 0 {
		round := t.waiting
		t.waiting = nil
		for _, at := range round {
			t.handOn(&t.nodes[at])
		}
	}
}

func (t *table) handOn(n *node) {
	fresh := n.fresh
	n.fresh = nil
	for _, by := range n.callers {
		for r, s := range fresh {
			t.capture(&t.nodes[by], r, s)
		}
	}
}

// told tells locals in their order: of those around a routine the outermost one has the least number.
func (t *table) told(l locals) []api.Param {
	rows := make([]row, 0, len(l))
	n := 0
	for r, s := range l {
		rows = append(rows, r)
		n += bits.OnesCount64(uint64(s))
	}
	slices.SortFunc(rows, func(a, b row) int {
		return cmp.Or(cmp.Compare(a.owner, b.owner), cmp.Compare(a.nth, b.nth))
	})
	ups := make([]api.Param, 0, n)
	for _, r := range rows {
		for s := l[r]; s != 0; s &= s - 1 {
			ups = append(ups, t.up(r, bits.TrailingZeros64(uint64(s))))
		}
	}
	return ups
}

func (t *table) up(r row, bit int) api.Param {
	f, i := t.nodes[r.owner].routine, r.nth*rowLen+bit
	if i < len(f.Params) {
		return api.Param{Name: f.Params[i].Name, T: f.Params[i].T, Mode: api.ByUp}
	}
	v := &f.Vars[i-len(f.Params)]
	return api.Param{Name: v.Name, T: v.T, Mode: api.ByUp}
}
