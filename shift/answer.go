package shift

import "vademecum/api"

// deepest: under more binders nothing is gone through any more, as a term that hangs on itself would never come to an end. It is twice as many as are promised for.
const deepest = 1 << 17

// unlifted: the lift of a place in the term that is moved itself.
const unlifted = -1

// place: a node and how many binders are around it, in the term that is moved, or in one that is put in, which is lifted by so many.
type place struct {
	node         *api.Term
	around, lift int
}

// answer: a term that is being made by a move.
type answer struct {
	main  move
	nodes int
	// What places became: kept only once there are more nodes than a term may have. Up to there no node of an answer is shared; behind it what is shared in the terms that came in could be unfolded to more nodes than could be made.
	made map[place]*api.Term
}

// at makes what a place becomes, and all that hangs on it.
func (a *answer) at(p place) *api.Term {
	if p.node == nil || p.around > deepest {
		return nil
	}
	m := a.moveAt(p)
	node := *p.node
	switch {
	case m.isBound(p.node):
		node = api.Term{Kind: api.TVar, N: p.around}
	case m.isMoved(p.node, p.around):
		if u, ok := m.put(p.node, p.around); ok {
			return a.at(place{node: u, lift: p.around})
		}
		node.N += m.by
	}
	return a.add(p, node)
}

// moveAt tells how what stands at a place is moved.
func (a *answer) moveAt(p place) move {
	if p.lift == unlifted {
		return a.main
	}
	return move{by: p.lift}
}

// add makes a node that a place becomes, with what hangs on it made anew.
func (a *answer) add(p place, node api.Term) *api.Term {
	a.nodes++
	if node.A == nil && node.B == nil && node.C == nil {
		return &node
	}
	if made := a.made[p]; made != nil {
		return made
	}
	made := &node
	// It is kept ahead of its parts: it may hang on itself.
	a.keep(p, made)
	inB, inC := p.within(node.Kind)
	made.A = a.at(place{node.A, p.around, p.lift})
	made.B = a.at(place{node.B, inB, p.lift})
	made.C = a.at(place{node.C, inC, p.lift})
	return made
}

// keep remembers what a place became.
func (a *answer) keep(p place, made *api.Term) {
	if a.nodes <= api.MaxNodes {
		return
	}
	if a.made == nil {
		a.made = map[place]*api.Term{}
	}
	a.made[p] = made
}

// within tells how many binders are around the B and the C of a node of a Kind: its own one is around all that stands behind its type and, of a let, its value.
func (p place) within(kind int) (inB, inC int) {
	inB, inC = p.around, p.around
	switch kind {
	case api.TPi, api.TLam:
		inB++
		fallthrough
	case api.TLet:
		inC++
	}
	return inB, inC
}
