package spine

import (
	"iter"

	"vademecum/api"
)

// nest: the Kind of the nodes of a nest: each has one part of a row, and the rest of the nest.
type nest int

const (
	applications nest = api.TApp
	products     nest = api.TPi
	functions    nest = api.TLam
)

// deepest: a nest of more nodes may be one that hangs on itself, and has no end. It is twice as many as are promised for.
const deepest = 1 << 17

// row takes a nest apart: the parts of its nodes, from the outermost on, most of them at most, and what is behind.
func (n nest) row(t *api.Term, most int) ([]*api.Term, *api.Term) {
	var l []*api.Term
	var mark *api.Term // a node to which only a nest without an end comes back
	for len(l) < most && t != nil && nest(t.Kind) == n && t != mark {
		if isMarked(len(l)) {
			mark = t
		}
		part, rest := n.sides(t.A, t.B)
		l, t = append(l, part), rest
	}
	return l, t
}

// isMarked tells whether the node behind so many others is marked. The next mark is twice as far: however long the way round is, it comes to fit in between.
func isMarked(behind int) bool {
	return behind >= deepest && behind&(behind-1) == 0
}

// around makes a nest of parts around a term, the first part innermost, all of it new.
func (n nest) around(parts iter.Seq2[int, *api.Term], t *api.Term) *api.Term {
	var c copies
	t = c.term(t)
	for _, part := range parts {
		a, b := n.sides(c.term(part), t)
		t = &api.Term{Kind: int(n), A: a, B: b}
	}
	return t
}

// sides tells of a node's A and B which is the part and which the rest; and of a part and the rest which is the A and which the B.
func (n nest) sides(a, b *api.Term) (*api.Term, *api.Term) {
	if n == applications {
		// What is applied is the rest, and stands ahead.
		return b, a
	}
	return a, b
}
