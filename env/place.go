package env

import (
	"vademecum/api"
	"vademecum/term"
	"vademecum/tree"
)

// place tells where the declaration of a name stands. Where there is none, the error tells whether there may be one: ErrForm of what no declaration has as its name, ErrName of a name that is free.
func (e *Env) place(name string) (int, error) {
	if _, rec := term.Rec(name); rec || !term.IsName(name) {
		return 0, fault{name: name, what: "is no name of a declaration", why: api.ErrForm}
	}
	at, ok := e.tree().Get(name)
	if !ok {
		return 0, fault{name: name, what: "isn't there", why: api.ErrName}
	}
	return at, nil
}

// tree tells where each name stands; an Env to which nothing was added needs none.
func (e *Env) tree() *tree.Tree {
	if e.names == nil {
		return tree.New()
	}
	return e.names
}
