package spine

import "vademecum/api"

// copies: the new terms that one answer is made of.
type copies struct {
	nodes int
	// What nodes became: kept only once there are more nodes than a term may have. Up to there no node of an answer is shared; behind it what is shared in the terms that came in could be unfolded to more nodes than could be made.
	kept map[*api.Term]*api.Term
}

// terms puts in the place of each of a list its copy.
func (c *copies) terms(l []*api.Term) []*api.Term {
	for i, t := range l {
		l[i] = c.term(t)
	}
	return l
}

// term copies a term, with all that hangs on it.
func (c *copies) term(t *api.Term) *api.Term {
	if t == nil {
		return nil
	}
	if made := c.kept[t]; made != nil {
		return made
	}
	c.nodes++
	made := &api.Term{Kind: t.Kind, N: t.N, Name: t.Name}
	switch {
	case t.A == nil && t.B == nil && t.C == nil:
		// Nothing hangs on it, and there is no use in keeping it.
	case c.nodes > api.MaxNodes:
		// It is kept ahead of its parts: it may hang on itself.
		c.keep(t, made)
		fallthrough
	default:
		made.A, made.B, made.C = c.term(t.A), c.term(t.B), c.term(t.C)
	}
	return made
}

// keep remembers what a node became.
func (c *copies) keep(t, made *api.Term) {
	if c.kept == nil {
		c.kept = map[*api.Term]*api.Term{}
	}
	c.kept[t] = made
}
