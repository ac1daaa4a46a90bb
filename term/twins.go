package term

import "vademecum/api"

// pair: two nodes at one place of two terms.
type pair struct{ a, b *api.Term }

// twins: nodes that are held to be the same until one of them shows that it isn't, in groups: of each node that isn't its group's first one, the way to it. What is shared can be unfolded to more pairs than could be gone through, but each pair that is joined leaves one group less.
type twins struct {
	pairs int
	first map[*api.Term]*api.Term
}

// hold tells whether all is the same in two terms.
func (w *twins) hold(a, b *api.Term) bool {
	todo := []pair{{a, b}}
	for len(todo) > 0 {
		last := todo[len(todo)-1]
		todo = todo[:len(todo)-1]
		if last.a == last.b {
			continue
		}
		if !last.isAlike() {
			return false
		}
		if w.join(last.a, last.b) {
			todo = append(todo, pair{last.a.C, last.b.C}, pair{last.a.B, last.b.B}, pair{last.a.A, last.b.A})
		}
	}
	return true
}

// isAlike tells whether two nodes are there and the same, but for their parts.
func (p pair) isAlike() bool {
	return p.a != nil && p.b != nil && p.a.Kind == p.b.Kind && p.a.N == p.b.N && p.a.Name == p.b.Name
}

// join makes one group of two nodes' groups; false, if they were of one already. The pairs that a term may have are few enough to be gone through without groups.
func (w *twins) join(a, b *api.Term) bool {
	w.pairs++
	if w.pairs <= api.MaxNodes {
		return true
	}
	if w.first == nil {
		w.first = map[*api.Term]*api.Term{}
	}
	a, b = w.find(a), w.find(b)
	if a == b {
		return false
	}
	w.first[a] = b
	return true
}

// find tells the first one of a node's group, and makes the way to it shorter for those on it.
func (w *twins) find(t *api.Term) *api.Term {
	for w.first[t] != nil {
		if next := w.first[w.first[t]]; next != nil {
			w.first[t] = next
		}
		t = w.first[t]
	}
	return t
}
