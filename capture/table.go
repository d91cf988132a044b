package capture

import (
	"iter"

	"pantograph/api"
)

// outside stands for the program, where a routine's place is asked for.
const outside = -1

// place is where a routine stands: its number in the order, that of the one around it, and that behind all those within it.
type place struct {
	at, around, end int
}

// node is what is known of a routine.
type node struct {
	place
	routine  *api.Routine
	callers  []int // their numbers, each once
	captured locals
	fresh    locals // of these, what the callers haven't been told yet
}

// table has the routines of a program, in their order.
type table struct {
	nodes   []node
	waiting []int // those that have something fresh
}

func newTable(l []api.Routine) *table {
	t := &table{}
	t.add(l, outside)
	return t
}

func (t *table) add(l []api.Routine, around int) {
	for i := range l {
		at := len(t.nodes)
		t.nodes = append(t.nodes, node{place: place{at: at, around: around}, routine: &l[i]})
		t.add(l[i].Inner, at)
		t.nodes[at].end = len(t.nodes)
	}
}

// list gives the routines that stand in one list, which begins at the first number and ends ahead of the other one.
func (t *table) list(from, end int) iter.Seq[*node] {
	return func(yield func(*node) bool) {
		for at := from; at < end; at = t.nodes[at].end {
			if !yield(&t.nodes[at]) {
				return
			}
		}
	}
}

func (t *table) inner(n *node) iter.Seq[*node] { return t.list(n.at+1, n.end) }

// call notes a caller once: all calls of a Body are met ahead of those of another one.
func (n *node) call(by *node) {
	if k := len(n.callers); k == 0 || n.callers[k-1] != by.at {
		n.callers = append(n.callers, by.at)
	}
}
