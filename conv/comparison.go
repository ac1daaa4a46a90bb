package conv

import (
	"slices"

	"vademecum/api"
	"vademecum/env"
)

// question: whether two terms come to the same, or, with up, to a sort and one that is greater.
type question struct {
	pair
	up bool
	// reduced: both terms are known to have no step.
	reduced bool
}

// comparison: terms that are being compared, and what is left of fuel.
type comparison struct {
	env  *env.Env
	fuel int
	// open: the questions that are still to be asked, the next one last. They stand in a list, and no call waits in another one, as there may be as many as there is fuel.
	open []question
	// differing: large terms that are known not to be the same, as a place where they differ was found.
	differing map[pair]struct{}
	// found: the declarations that were asked for. An Env makes one anew whenever it is asked.
	found map[string]api.Decl
}

func newComparison(e *env.Env, fuel int) *comparison {
	return &comparison{env: e, fuel: fuel, found: map[string]api.Decl{}}
}

// hold asks a question, and all those that it hangs on, up to the first that ends it by an error.
func (c *comparison) hold(q question) error {
	c.open = append(c.open, q)
	for len(c.open) > 0 {
		last := len(c.open) - 1
		next := c.open[last]
		c.open = c.open[:last]
		if err := c.ask(next); err != nil {
			return err
		}
	}
	return nil
}

// ask answers a question, or puts in its place those that it hangs on.
func (c *comparison) ask(q question) error {
	if err := c.take(); err != nil {
		return err
	}
	if c.areSame(q.pair) {
		return nil
	}
	q, err := c.reduced(q)
	if err != nil {
		return err
	}
	l, err := c.parts(q)
	slices.Reverse(l)
	c.open = append(c.open, l...)
	return err
}

// take takes one of fuel.
func (c *comparison) take() error {
	if c.fuel <= 0 {
		return fault{what: "nothing left to compare by", why: api.ErrFuel}
	}
	c.fuel--
	return nil
}

// find tells a declaration, or nothing of a name that has none.
func (c *comparison) find(name string) api.Decl {
	d, ok := c.found[name]
	if !ok {
		d, _ = c.env.Find(name)
		c.found[name] = d
	}
	return d
}
