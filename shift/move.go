package shift

import (
	"math"

	"vademecum/api"
)

// move: what becomes of the variables around a term, the innermost one first: those below from stay, for the next ones terms are put in, the last of these first, and all others have by more. A constant of the name is the innermost variable, if the move binds.
type move struct {
	from, by int
	terms    []*api.Term
	binds    bool
	name     string
}

// whole is a term as it is moved, all of it new.
func (m move) whole(t *api.Term) *api.Term {
	return (&answer{main: m}).at(place{node: t, lift: unlifted})
}

// isBound tells whether a node is a constant that the move binds.
func (m *move) isBound(node *api.Term) bool {
	return m.binds && node.Kind == api.TConst && node.Name == m.name && node.N == 0
}

// isMoved tells whether a node is a variable that doesn't stay, with so many binders around.
func (m *move) isMoved(node *api.Term, around int) bool {
	// Less the binders around, a number could be less than any int.
	return node.Kind == api.TVar && node.N >= math.MinInt+around && node.N-around >= m.from
}

// put tells the term that is put in for a variable that doesn't stay; false, if there is none for it.
func (m *move) put(node *api.Term, around int) (*api.Term, bool) {
	// A number may be further above from than an int can tell.
	above := uint(node.N-around) - uint(m.from)
	if above >= uint(len(m.terms)) {
		return nil, false
	}
	return m.terms[len(m.terms)-1-int(above)], true
}
