package whnf

import (
	"slices"

	"vademecum/api"
	"vademecum/term"
)

// deepest: a nest of more parts may be one that hangs on itself, and has no end. It is twice as many as are promised for.
const deepest = 1 << 17

// apart tells the head of a term and its arguments, as spine's Head does, but copies nothing: of majors that stand in one another each is taken apart, and what is innermost would be copied once for each of them.
func apart(t *api.Term) (*api.Term, []*api.Term) {
	var l []*api.Term
	for t != nil && t.Kind == api.TApp && len(l) < deepest {
		l, t = append(l, t.B), t.A
	}
	slices.Reverse(l)
	return t, l
}

// applied is a head applied to arguments; it copies nothing either.
func applied(f *api.Term, l []*api.Term) *api.Term {
	for _, t := range l {
		f = &api.Term{Kind: api.TApp, A: f, B: t}
	}
	return f
}

// bounded is a term, or in the place of one that is too large another one that is. What either of them is put into is too large as well, and isn't told; but the other one is soon made, in however many places it is put.
func bounded(t *api.Term) *api.Term {
	if term.Size(t) <= api.MaxNodes {
		return t
	}
	large := &api.Term{Kind: api.TSort}
	for term.Size(large) <= api.MaxNodes {
		large = &api.Term{Kind: api.TApp, A: large, B: large}
	}
	return large
}

// allBounded is a list of terms, each bounded.
func allBounded(l []*api.Term) []*api.Term {
	l = slices.Clone(l)
	for i, t := range l {
		l[i] = bounded(t)
	}
	return l
}
