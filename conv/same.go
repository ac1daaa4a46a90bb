package conv

import (
	"vademecum/api"
	"vademecum/term"
)

// areSame tells whether two terms are the same. Of large ones term's Same would go through what is innermost again for each of the terms around it: where such differ, all that is around that place is kept.
func (c *comparison) areSame(p pair) bool {
	if _, ok := c.differing[p]; ok {
		return false
	}
	if term.Size(p.a) <= api.MaxNodes {
		return term.Same(p.a, p.b)
	}
	around := difference(p)
	if around == nil {
		return true
	}
	c.differing = around
	return false
}

// place: a pair at one place of two terms, and where in a list the place around it stands; the whole has none.
type place struct {
	pair
	around int
}

// difference tells a pair at which two terms differ, and all pairs around it; nothing, if they are the same.
func difference(p pair) map[pair]struct{} {
	g := groups{}
	places := []place{{p, -1}}
	todo := []int{0}
	for len(todo) > 0 {
		at := todo[len(todo)-1]
		todo = todo[:len(todo)-1]
		a, b := places[at].a, places[at].b
		switch {
		case a == b:
		case !isAlike(a, b):
			return around(places, at)
		case g.join(a, b):
			for _, part := range []pair{{a.C, b.C}, {a.B, b.B}, {a.A, b.A}} {
				todo = append(todo, len(places))
				places = append(places, place{part, at})
			}
		}
	}
	return nil
}

// around are the pairs around a place, and the one there.
func around(places []place, at int) map[pair]struct{} {
	l := map[pair]struct{}{}
	for at >= 0 {
		l[places[at].pair] = struct{}{}
		at = places[at].around
	}
	return l
}

// isAlike tells whether two terms are there and the same, but for their parts.
func isAlike(a, b *api.Term) bool {
	return a != nil && b != nil && a.Kind == b.Kind && a.N == b.N && a.Name == b.Name
}

// groups: nodes that are held to be the same until one of them shows that it isn't: of each node that isn't its group's first one, the way to it. What is shared can be unfolded to more pairs than could be gone through, but each pair that is joined leaves one group less.
type groups map[*api.Term]*api.Term

// join makes one group of two nodes' groups; false, if they were of one already.
func (g groups) join(a, b *api.Term) bool {
	a, b = g.first(a), g.first(b)
	if a == b {
		return false
	}
	g[a] = b
	return true
}

// first tells the first one of a node's group, and makes the way to it shorter for those on it.
func (g groups) first(t *api.Term) *api.Term {
	for g[t] != nil {
		if next := g[g[t]]; next != nil {
			g[t] = next
		}
		t = g[t]
	}
	return t
}
