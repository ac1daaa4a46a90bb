package posit

import (
	"slices"
	"strconv"

	"vademecum/api"
	"vademecum/term"
)

// checkForm tells what is ill-formed of a family and its constructors.
func checkForm(name string, params int, t *api.Term, cons []api.Con) error {
	switch {
	case params < 0 || params > api.MaxArgs:
		return illFormed(name, "can't have "+strconv.Itoa(params)+" parameters")
	case len(cons) > api.MaxCons:
		return illFormed(name, "can't have "+strconv.Itoa(len(cons))+" constructors")
	}
	if err := checkTyped(name, t); err != nil {
		return err
	}
	for i, c := range cons {
		if c.Name == name || isAmong(c.Name, cons[:i]) {
			return illFormed(c.Name, "is there twice")
		}
		if err := checkTyped(c.Name, c.Type); err != nil {
			return err
		}
	}
	return nil
}

// isAmong tells whether a constructor is of that name.
func isAmong(name string, cons []api.Con) bool {
	return slices.ContainsFunc(cons, func(c api.Con) bool { return c.Name == name })
}

// checkTyped tells what is ill-formed of a name and its type.
func checkTyped(name string, t *api.Term) error {
	_, rec := term.Rec(name)
	switch {
	case rec || !term.IsName(name):
		return illFormed(name, "is no name of a declaration")
	case !term.Is(t):
		return illFormed(name, "its type is no term")
	case term.Free(t) > 0:
		return illFormed(name, "its type has variables around it")
	}
	return nil
}
