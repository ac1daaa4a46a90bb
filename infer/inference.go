package infer

import (
	"slices"

	"vademecum/api"
	"vademecum/conv"
	"vademecum/env"
	"vademecum/whnf"
)

// deepest: of more parts in one another each one waiting for the next, a term may be one that hangs on itself, and has no end. It is four times as many as are promised for: the values of lets, put in, may stand in one another, too.
const deepest = 1 << 18

// inference: a term whose type is asked for, and what is left of fuel.
type inference struct {
	env  *env.Env
	fuel int
	// ctx: the types of the variables around the part that is asked about, the innermost one last.
	ctx []*api.Term
	// depth: how many parts wait for one another.
	depth int
	// types: the types of the constants that were asked for. An Env makes a declaration anew whenever it is asked.
	types map[constant]*api.Term
}

func newInference(e *env.Env, ctx []*api.Term, fuel int) *inference {
	return &inference{env: e, fuel: fuel, ctx: slices.Clone(ctx), types: map[constant]*api.Term{}}
}

// infer tells the type of a part.
func (i *inference) infer(p part) (*api.Term, error) {
	if i.depth == deepest {
		return nil, fault{what: "parts in one another without an end", why: api.ErrFuel}
	}
	i.depth++
	a, err := i.typeOf(p)
	i.depth--
	return a, err
}

// typeOf tells the type of a part by its Kind.
func (i *inference) typeOf(p part) (*api.Term, error) {
	if kindOf(p.t) == api.TVar && len(p.row) > 0 {
		// What it stands for is asked in its place, and takes what that takes.
		return i.infer(part{t: i.standsFor(p)})
	}
	if err := i.take(); err != nil {
		return nil, err
	}
	switch kindOf(p.t) {
	case api.TSort:
		return sortAbove(p.t.N)
	case api.TVar:
		return i.variable(p.t.N)
	case api.TConst:
		return i.constant(constant{name: p.t.Name, sort: p.t.N})
	case api.TPi:
		return i.product(p)
	case api.TLam:
		return i.function(p)
	case api.TApp:
		return i.application(p)
	case api.TLet:
		return i.let(p)
	}
	return nil, fault{what: "what is no term has no type", why: api.ErrSort}
}

// sort tells the sort that the type of a part is.
func (i *inference) sort(p part) (int, error) {
	a, err := i.infer(p)
	if err == nil {
		a, err = i.reduced(a)
	}
	switch {
	case err != nil:
		return 0, err
	case kindOf(a) != api.TSort:
		return 0, fault{what: "what should be a type is none", why: api.ErrSort}
	}
	return a.N, nil
}

// check asks whether a part is of a type.
func (i *inference) check(p part, a *api.Term) error {
	b, err := i.infer(p)
	if err != nil {
		return err
	}
	same, left, err := conv.Conv(i.env, b, a, true, i.fuel)
	switch {
	case err != nil:
		return err
	case !same:
		return fault{what: "not of the type that it should have", why: api.ErrType}
	}
	i.fuel = left
	return nil
}

// reduced is what a type comes to, at the head.
func (i *inference) reduced(a *api.Term) (*api.Term, error) {
	switch kindOf(a) {
	case api.TSort, api.TPi:
		// It has no step, but Whnf would copy it.
		return a, nil
	}
	a, left, err := whnf.Whnf(i.env, a, i.fuel)
	if err != nil {
		return nil, err
	}
	i.fuel = left
	return a, nil
}

// take takes one of fuel.
func (i *inference) take() error {
	if i.fuel <= 0 {
		return fault{what: "nothing left to infer by", why: api.ErrFuel}
	}
	i.fuel--
	return nil
}

// kindOf is a term's Kind; of none, none.
func kindOf(t *api.Term) int {
	if t == nil {
		return 0
	}
	return t.Kind
}
