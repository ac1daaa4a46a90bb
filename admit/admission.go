package admit

import (
	"errors"

	"vademecum/api"
	"vademecum/env"
	"vademecum/infer"
	"vademecum/term"
)

// admission: an Env into which declarations are to be let, and what is left of fuel.
type admission struct {
	env  *env.Env
	fuel int
}

func newAdmission(e *env.Env, fuel int) *admission {
	return &admission{env: e, fuel: min(max(fuel, 0), api.MaxFuel)}
}

// told is the Env with all that was let in, or why what has that name isn't.
func (m *admission) told(name string, err error) (*env.Env, error) {
	if err != nil {
		return nil, wrapped(name, err)
	}
	return m.env, nil
}

// single lets in an axiom or a definition.
func (m *admission) single(d api.Decl) error {
	// An Env asks for the type alone.
	if d.Kind == api.DDef && !term.Is(d.Value) {
		return fault{name: d.Name, what: "its value is no term", why: api.ErrForm}
	}
	if err := m.mayStand(d); err != nil {
		return err
	}
	if err := m.typed(d); err != nil {
		return err
	}
	return m.add(d)
}

// typed asks whether the type of a declaration is one, and whether a definition's value is of it.
func (m *admission) typed(d api.Decl) error {
	if _, err := m.sort(nil, d.Type); err != nil {
		return fault{name: d.Name, what: "its type", why: err}
	}
	if d.Kind != api.DDef {
		return nil
	}
	left, err := infer.Check(m.env, nil, d.Value, d.Type, m.fuel)
	if err != nil {
		return fault{name: d.Name, what: "its value", why: err}
	}
	m.fuel = left
	return nil
}

// mayStand asks whether declarations are well-formed, and their names free.
func (m *admission) mayStand(l ...api.Decl) error {
	for _, d := range l {
		// Whether there is room is asked behind the types, when it is added.
		if _, err := m.env.Add(d); err != nil && !errors.Is(err, api.ErrFull) {
			return err
		}
	}
	return nil
}

// add lets declarations in, in order.
func (m *admission) add(l ...api.Decl) error {
	for _, d := range l {
		e, err := m.env.Add(d)
		if err != nil {
			return err
		}
		m.env = e
	}
	return nil
}

// sort tells the sort of a type, under the types of the variables around.
func (m *admission) sort(ctx []*api.Term, a *api.Term) (int, error) {
	n, left, err := infer.Sort(m.env, ctx, a, m.fuel)
	if err != nil {
		return 0, err
	}
	m.fuel = left
	return n, nil
}
