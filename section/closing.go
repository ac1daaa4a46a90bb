package section

import (
	"errors"

	"vademecum/api"
	"vademecum/env"
	"vademecum/shift"
	"vademecum/spine"
	"vademecum/term"
)

// closing: an Env that is being made of another one, without some variables.
type closing struct {
	web  *web
	made *env.Env
	gone map[string][]*api.Term // the variables that a constant was let go of, as constants
}

func newClosing(e *env.Env, from int, vars []api.Decl) *closing {
	return &closing{web: newWeb(e, vars), made: e.Cut(from), gone: map[string][]*api.Term{}}
}

// add adds what becomes of a declaration.
func (c *closing) add(d api.Decl) error {
	if len(c.web.places[d.Name]) > 0 {
		return nil // a variable goes
	}
	if d.Kind != api.DFamily && d.Kind != api.DCon {
		if err := c.letGo(&d); err != nil {
			return err
		}
	}
	made, err := c.made.Add(d)
	if errors.Is(err, api.ErrForm) {
		// Its name was good enough before, so it is its type that is no term any more.
		return api.ErrLarge
	}
	c.made = made
	return err
}

// letGo lets a declaration go of the variables that it needs.
func (c *closing) letGo(d *api.Decl) error {
	l, err := c.telescope(c.web.needs(said(d.Type, d.Value)))
	if err != nil {
		return err
	}
	if d.Type, err = c.under(l, d.Type, spine.Pi); err != nil {
		return err
	}
	// An Env asks for the type alone.
	was := term.Is(d.Value)
	if d.Value, err = c.under(l, d.Value, spine.Lam); err != nil {
		return err
	}
	if was && !term.Is(d.Value) {
		return api.ErrLarge
	}
	c.gone[d.Name] = constants(l.names)
	return nil
}

// telescope: variables that something is let go of: their names, and their types, each under those ahead of it.
type telescope struct {
	names []string
	types []*api.Term
}

// telescope makes the telescope of variables.
func (c *closing) telescope(needs []int) (telescope, error) {
	l := telescope{names: c.web.names(needs)}
	nodes := 0
	for i, at := range needs {
		a := c.applied(c.web.vars[at].Type)
		// A type with these around it is no term, and far too many may be left to go on with them.
		if nodes += term.Size(a); nodes > api.MaxNodes || !term.Is(a) {
			return telescope{}, api.ErrLarge
		}
		l.types = append(l.types, bound(a, l.names[:i]))
	}
	return l, nil
}

// under puts binders of variables around a term, in which they stand as constants no more.
func (c *closing) under(l telescope, t *api.Term, binders func([]*api.Term, *api.Term) *api.Term) (*api.Term, error) {
	if t == nil {
		return nil, nil // an axiom has no value
	}
	a := c.applied(t)
	// It gets no smaller any more.
	if term.Is(t) && !term.Is(a) {
		return nil, api.ErrLarge
	}
	return binders(l.types, bound(a, l.names)), nil
}

// bound binds names in a term, the outermost first.
func bound(t *api.Term, names []string) *api.Term {
	for _, name := range names {
		t = shift.Bind(t, name)
	}
	return t
}

// constants are the constants of names.
func constants(names []string) []*api.Term {
	l := make([]*api.Term, len(names))
	for i, name := range names {
		l[i] = &api.Term{Kind: api.TConst, Name: name}
	}
	return l
}
