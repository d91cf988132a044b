package check

import "pantograph/api"

// What a name may name.
const (
	aRecord = iota
	aVariable
	aParameter
	aRoutine
)

// key has the kind beside the name: till the item is met that has a name twice, it names a thing of each kind.
type key struct {
	name string
	kind int
}

// thing is what a name names: a variable or a parameter has its type, a record its fields' kinds by their names, a routine itself.
type thing struct {
	typ     api.Type
	fields  map[string]int
	routine *api.Routine
	depth   int  // of the block that laid it
	again   bool // a thing of this key is visible around that block
}

// scope is that of the whole program: all that is visible where the item stands.
type scope struct {
	visible map[key]thing
	item    int
}

func newScope() *scope { return &scope{visible: map[key]thing{}, item: -1} }

func (s *scope) find(name string, kinds ...int) (thing, bool) {
	for _, kind := range kinds {
		if x, ok := s.visible[key{name, kind}]; ok {
			return x, true
		}
	}
	return thing{}, false
}

func (s *scope) sees(name string, kinds ...int) bool {
	_, ok := s.find(name, kinds...)
	return ok
}

// block is the inside of the program or of a routine. The scope around it is embedded in it: what the block lays is visible there till the block is left.
type block struct {
	*scope
	laid   []key
	depth  int
	result int // what a return in it has the value of: 0, if it has none
}

func (b *block) inner(result int) *block {
	return &block{scope: b.scope, depth: b.depth + 1, result: result}
}

// lay hides what has this key already: of routines a name may mean two, till the inner one's item is met.
func (b *block) lay(name string, kind int, x thing) {
	k := key{name, kind}
	x.depth = b.depth
	_, x.again = b.visible[k]
	b.visible[k] = x
	b.laid = append(b.laid, k)
}

// layRoutines lays a name once, however many of the list have it: they don't hide each other.
func (b *block) layRoutines(list []api.Routine) {
	for i := range list {
		x, ok := b.find(list[i].Name, aRoutine)
		if !ok || x.depth < b.depth {
			b.lay(list[i].Name, aRoutine, thing{routine: &list[i]})
		}
	}
}

// taken tells whether the name of a routine of the block's list is visible there, but for that list's.
func (b *block) taken(r *api.Routine) bool {
	own, _ := b.find(r.Name, aRoutine)
	return own.again || b.sees(r.Name, aRecord, aVariable, aParameter)
}

// leave brings nothing hidden back: in a block that makes sense nothing hid anything.
func (b *block) leave() {
	for _, k := range b.laid {
		delete(b.visible, k)
	}
}
