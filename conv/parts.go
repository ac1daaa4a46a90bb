package conv

import "vademecum/api"

// parts tells the questions that one about reduced terms hangs on, in order; an error, if the terms are unlike whatever their parts are.
func (c *comparison) parts(q question) ([]question, error) {
	var l []question
	up := false
	switch {
	case q.are(api.TSort):
		if q.a.N == q.b.N || q.up && q.a.N < q.b.N {
			return nil, nil
		}
		return nil, unlike{left: c.fuel}
	case q.are(api.TPi):
		l = append(l, question{pair: pair{q.a.A, q.b.A}})
		up = q.up
		fallthrough
	case q.are(api.TLam):
		return append(l, question{pair: pair{q.a.B, q.b.B}, up: up}), nil
	case is(q.a, api.TLam):
		return c.opened(q.a, q.b)
	case is(q.b, api.TLam):
		l, err := c.opened(q.b, q.a)
		return turned(l), err
	}
	return c.arguments(q.a, q.b)
}

// turned are questions with the terms of each the other way round.
func turned(l []question) []question {
	for i, q := range l {
		l[i].pair = pair{q.b, q.a}
	}
	return l
}

// arguments tells the questions about the arguments of two terms that are nothing but heads and arguments.
func (c *comparison) arguments(a, b *api.Term) ([]question, error) {
	f, args := apart(a)
	g, others := apart(b)
	if !(pair{f, g}).isHead() || len(args) != len(others) {
		return nil, unlike{left: c.fuel}
	}
	_, major := c.recursor(f, len(args))
	l := make([]question, len(args))
	for i := range l {
		l[i] = question{pair: pair{args[i], others[i]}, reduced: i == major}
	}
	return l, nil
}

// isHead tells whether two terms are the same constant, or the same variable.
func (p pair) isHead() bool {
	switch {
	case p.are(api.TConst):
		if p.a.Name != p.b.Name {
			return false
		}
		fallthrough
	case p.are(api.TVar):
		return p.a.N == p.b.N
	}
	return false
}
