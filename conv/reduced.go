package conv

import (
	"slices"

	"vademecum/api"
	"vademecum/term"
	"vademecum/whnf"
)

// reduced is a question about what its terms come to, at the head.
func (c *comparison) reduced(q question) (question, error) {
	if q.reduced {
		return q, nil
	}
	var err error
	if q.a, err = c.whnf(q.a); err == nil {
		q.b, err = c.whnf(q.b)
	}
	return q, err
}

// whnf is what a term comes to, at the head.
func (c *comparison) whnf(t *api.Term) (*api.Term, error) {
	if !c.mayStep(t) {
		// Whnf would copy it, and what is in it once for each of the terms around that.
		return t, nil
	}
	t, left, err := whnf.Whnf(c.env, t, c.fuel)
	if err != nil {
		return nil, fault{what: "a term that isn't reduced", why: err}
	}
	c.fuel = left
	return t, nil
}

// mayStep tells whether a term may have a step. Of recursors that are one another's majors the innermost major tells, if it has a step or is a constructor.
func (c *comparison) mayStep(t *api.Term) bool {
	var cons []api.Con
	for range deepest {
		f, args := apart(t)
		switch {
		case is(f, api.TLet):
			return true
		case is(f, api.TLam):
			return len(args) > 0
		case !is(f, api.TConst):
			return false
		}
		d, at := c.recursor(f, len(args))
		if at >= len(args) {
			return c.find(f.Name).Kind == api.DDef || slices.ContainsFunc(cons, func(k api.Con) bool { return k.Name == f.Name })
		}
		t, cons = args[at], d.Family.Cons
	}
	return true
}

// recursor tells the family whose recursor a head is, and which one of so many arguments is the major; if none is, a number behind them.
func (c *comparison) recursor(f *api.Term, args int) (api.Decl, int) {
	name, rec := term.Rec(f.Name)
	if !rec || !is(f, api.TConst) {
		return api.Decl{}, args
	}
	d := c.find(name)
	params, indices := max(d.Family.Params, 0), max(d.Family.Indices, 0)
	// An Env lets in a family of any numbers: their sum needn't be an int.
	if d.Kind != api.DFamily || max(params, indices) > args {
		return api.Decl{}, args
	}
	return d, params + 1 + len(d.Family.Cons) + indices
}
