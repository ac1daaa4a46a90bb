package posit

import (
	"errors"
	"math"
	"slices"

	"vademecum/api"
	"vademecum/recur"
	"vademecum/spine"
	"vademecum/term"
)

// family: a family by which types are asked whether they may be.
type family struct {
	decl api.Decl
	// parts: the parameters' types and the indices', each under those ahead; nothing where only a name and a number are told.
	parts []*api.Term
}

// named is a family of which a name and how many parameters it has are told.
func named(name string, params int) family {
	return family{decl: api.Decl{Kind: api.DFamily, Name: name, Family: api.Family{Params: max(params, 0)}}}
}

// familyOf is a family of a type, or what keeps that from being a family's.
func familyOf(name string, params int, t *api.Term) (family, error) {
	f := named(name, params)
	parts, end, err := f.telescope(api.DFamily, t)
	switch {
	case err != nil:
		return family{}, err
	case end.Kind != api.TSort:
		return family{}, errSort
	case slices.ContainsFunc(parts, f.isIn):
		return family{}, errAstray
	}
	f.parts = parts
	f.decl.Family.Indices, f.decl.Family.Sort = len(parts)-params, end.N
	return f, nil
}

// telescope takes the type of the family, or of a constructor, apart: its products' parts, what is behind them.
func (f family) telescope(kind int, t *api.Term) ([]*api.Term, *api.Term, error) {
	l, end := spine.Pis(t, math.MaxInt)
	most := api.MaxArgs
	switch kind {
	case api.DCon:
		// The parameters aren't counted among its arguments.
		most += f.decl.Family.Params
		fallthrough
	case api.DFamily:
		if len(l) < f.decl.Family.Params || len(l) > most {
			return nil, nil, errLength
		}
	}
	return l, end, nil
}

// constructor tells what keeps a type from being a constructor's.
func (f family) constructor(t *api.Term) error {
	l, end, err := f.telescope(api.DCon, t)
	if err != nil {
		return err
	}
	p := f.decl.Family.Params
	if !slices.EqualFunc(l[:p], f.parts[:p], term.Same) {
		return errParams
	}
	for i, a := range l[p:] {
		// Other than the end, an argument may be without the family.
		if err := f.plain(p+i, a); err != nil && !errors.Is(err, errAbsent) {
			return err
		}
	}
	if _, args := spine.Head(end); len(args) != len(f.parts) {
		return errEnd
	}
	return f.plain(len(l), end)
}

// plain tells what keeps a type from being Plain: errAbsent, if the family isn't in it at all.
func (f family) plain(around int, a *api.Term) error {
	n, ends, ok := recur.Deep(f.decl, a)
	switch {
	case !ok && !f.isIn(a):
		return errAbsent
	case !ok:
		return errAstray
	}
	own, end := spine.Pis(a, n)
	_, args := spine.Head(end)
	p := len(args) - len(ends)
	switch {
	case slices.ContainsFunc(own, f.isIn) || slices.ContainsFunc(ends, f.isIn):
		return errAstray
	case !slices.EqualFunc(args[:p], spine.Vars(p, around+n-p), term.Same):
		return errParams
	}
	return nil
}

// isIn tells whether the family or its recursor is in a term.
func (f family) isIn(t *api.Term) bool {
	return term.Has(t, f.decl.Name) || term.Has(t, f.decl.Name+".rec")
}
