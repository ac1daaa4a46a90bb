package conv

import (
	"slices"

	"vademecum/api"
)

// pair: two terms that are held against each other.
type pair struct{ a, b *api.Term }

// are tells whether both terms are of a Kind.
func (p pair) are(kind int) bool { return is(p.a, kind) && is(p.b, kind) }

// is tells whether a term is there, and of a Kind.
func is(t *api.Term, kind int) bool { return t != nil && t.Kind == kind }

// deepest: a row of more arguments may be one that hangs on itself, and has no end. It is twice as many as are promised for.
const deepest = 1 << 17

// apart tells the head of a term and its arguments, as spine's Head does, but copies nothing: of terms that stand in one another each is taken apart, and what is innermost would be copied once for each of them.
func apart(t *api.Term) (*api.Term, []*api.Term) {
	var l []*api.Term
	for is(t, api.TApp) && len(l) < deepest {
		l, t = append(l, t.B), t.A
	}
	slices.Reverse(l)
	return t, l
}
