package admit

import (
	"math"
	"strconv"

	"vademecum/api"
	"vademecum/posit"
	"vademecum/spine"
)

// family lets in a family and its constructors.
func (m *admission) family(name string, params int, a *api.Term, cons []api.Con) error {
	f, err := posit.Shape(name, params, a, cons)
	if err != nil {
		return err
	}
	l := declarations(name, a, f)
	if err := m.mayStand(l...); err != nil {
		return err
	}
	if err := m.typed(l[0]); err != nil {
		return err
	}
	if err := m.add(l[0]); err != nil {
		return err
	}
	// No constructor is there while these are asked.
	for _, c := range l[1:] {
		if err := m.constructor(f, c); err != nil {
			return err
		}
	}
	return m.add(l[1:]...)
}

// declarations are those of a family and its constructors, in order.
func declarations(name string, a *api.Term, f api.Family) []api.Decl {
	l := []api.Decl{{Kind: api.DFamily, Name: name, Type: a, Family: f}}
	for _, c := range f.Cons {
		l = append(l, api.Decl{Kind: api.DCon, Name: c.Name, Type: c.Type, Of: name})
	}
	return l
}

// constructor asks whether a constructor's type is one, and whether no part behind the parameters is of a sort above the family's.
func (m *admission) constructor(f api.Family, c api.Decl) error {
	if err := m.typed(c); err != nil {
		return err
	}
	parts, _ := spine.Pis(c.Type, math.MaxInt)
	for i := f.Params; i < len(parts); i++ {
		what := "its part " + strconv.Itoa(i)
		switch n, err := m.sort(parts[:i], parts[i]); {
		case err != nil:
			return fault{name: c.Name, what: what, why: err}
		case n > f.Sort:
			return fault{name: c.Name, what: what + " is of a sort above the family's", why: api.ErrSort}
		}
	}
	return nil
}
