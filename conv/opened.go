package conv

import (
	"vademecum/api"
	"vademecum/shift"
	"vademecum/spine"
	"vademecum/term"
)

// opened tells the questions about what stands in a function, and another reduced term applied to the function's variable. As long as it is a function that stands there, that one is opened too: the other term, applied, has no step and is no function, so it needn't be moved and applied for each of them.
func (c *comparison) opened(f, t *api.Term) ([]question, error) {
	for n := 1; n <= deepest; n++ {
		if err := c.take(); err != nil {
			return nil, err
		}
		f = f.B
		if endsIn(f, n) && term.Same(f, applied(t, n)) {
			return nil, nil
		}
		var err error
		if f, err = c.whnf(f); err != nil {
			return nil, err
		}
		if !is(f, api.TLam) {
			return c.arguments(f, applied(t, n))
		}
	}
	return nil, fault{what: "functions in one another without an end", why: api.ErrFuel}
}

// applied is a term under n more variables, applied to them.
func applied(t *api.Term, n int) *api.Term {
	return spine.Apply(shift.Lift(t, n, 0), spine.Vars(n, 0)...)
}

// endsIn tells whether a term is one that is applied to the n innermost variables.
func endsIn(t *api.Term, n int) bool {
	for i := range n {
		if !is(t, api.TApp) || !is(t.B, api.TVar) || t.B.N != i {
			return false
		}
		t = t.A
	}
	return true
}
