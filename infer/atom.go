package infer

import (
	"errors"
	"strconv"

	"vademecum/api"
	"vademecum/recur"
	"vademecum/shift"
	"vademecum/term"
)

// constant: what the type of a constant hangs on.
type constant struct {
	name string
	sort int
}

// sortAbove is the type of a sort.
func sortAbove(n int) (*api.Term, error) {
	if n >= api.MaxSort {
		return nil, fault{what: "no sort is above " + strconv.Itoa(n), why: api.ErrSort}
	}
	return &api.Term{Kind: api.TSort, N: n + 1}, nil
}

// variable tells the type of a variable.
func (i *inference) variable(n int) (*api.Term, error) {
	if n < 0 || n >= len(i.ctx) || i.ctx[len(i.ctx)-1-n] == nil {
		return nil, fault{what: "no variable " + strconv.Itoa(n) + " is around", why: api.ErrVar}
	}
	return shift.Lift(i.ctx[len(i.ctx)-1-n], n+1, 0), nil
}

// constant tells the type of a constant.
func (i *inference) constant(c constant) (*api.Term, error) {
	if a := i.types[c]; a != nil {
		return a, nil
	}
	a, err := i.recursor(c)
	if errors.Is(err, api.ErrName) {
		// It is the recursor of no family, so its own name tells.
		a, err = i.declared(c.name)
	}
	if err != nil {
		return nil, err
	}
	i.types[c] = a
	return a, nil
}

// recursor tells the type of a family's recursor.
func (i *inference) recursor(c constant) (*api.Term, error) {
	name, _ := term.Rec(c.name)
	d, _ := i.env.Find(name)
	switch {
	case d.Kind != api.DFamily:
		return nil, fault{what: strconv.Quote(c.name) + " is the recursor of no family", why: api.ErrName}
	case c.sort >= api.MaxSort:
		return nil, fault{what: strconv.Quote(c.name) + " can't eliminate into sort " + strconv.Itoa(c.sort), why: api.ErrSort}
	}
	return recur.Type(d, c.sort), nil
}

// declared tells the type of what is declared by a name.
func (i *inference) declared(name string) (*api.Term, error) {
	d, ok := i.env.Find(name)
	if !ok {
		return nil, fault{what: strconv.Quote(name) + " isn't there", why: api.ErrName}
	}
	return d.Type, nil
}
