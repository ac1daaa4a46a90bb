package infer

import (
	"slices"

	"vademecum/api"
	"vademecum/shift"
)

// applied: the type of a term that is applied, and the arguments that are still to be put in for its innermost variables, the last one for the innermost: to put each one in by itself would make the whole type anew for each argument.
type applied struct {
	a    *api.Term
	args []*api.Term
}

// whole is the type with the arguments put in.
func (f applied) whole() *api.Term { return f.put(f.a) }

// put is a term with the arguments put in.
func (f applied) put(t *api.Term) *api.Term {
	if len(f.args) == 0 {
		return t
	}
	return shift.All(t, f.args...)
}

// application tells the type of an application.
func (i *inference) application(p part) (*api.Term, error) {
	head, args, err := i.apart(p.t)
	if err != nil {
		return nil, err
	}
	a, err := i.infer(p.of(head))
	f := applied{a: a}
	for _, t := range args {
		if err == nil {
			f, err = i.apply(f, p.of(t))
		}
	}
	if err != nil {
		return nil, err
	}
	return f.whole(), nil
}

// apart tells the head of an application and its arguments, as spine's Head does, but copies nothing, and takes one of fuel for each application in it.
func (i *inference) apart(t *api.Term) (*api.Term, []*api.Term, error) {
	args := []*api.Term{t.B}
	for t = t.A; kindOf(t) == api.TApp; t = t.A {
		if err := i.take(); err != nil {
			return nil, nil, err
		}
		if len(args) == deepest {
			return nil, nil, fault{what: "arguments without an end", why: api.ErrFuel}
		}
		args = append(args, t.B)
	}
	slices.Reverse(args)
	return t, args, nil
}

// apply tells the type of what is applied to one argument more.
func (i *inference) apply(f applied, arg part) (applied, error) {
	f, err := i.opened(f)
	if err != nil {
		return f, err
	}
	if err := i.check(arg, f.put(f.a.A)); err != nil {
		return f, err
	}
	if len(arg.row) > 0 && arg.t.A != nil && isClosed(f.a.B) {
		// It isn't asked for, and to make it whole would make anew all that stands in it.
		return applied{a: f.a.B}, nil
	}
	return applied{a: f.a.B, args: append(f.args, i.whole(arg))}, nil
}

// opened is a type that is a product, or comes to one.
func (i *inference) opened(f applied) (applied, error) {
	switch {
	case kindOf(f.a) == api.TPi:
		return f, nil
	case len(f.args) > 0:
		f = applied{a: f.whole()}
		fallthrough
	default:
		a, err := i.reduced(f.a)
		if err == nil && kindOf(a) != api.TPi {
			err = fault{what: "what is applied is no function", why: api.ErrFun}
		}
		return applied{a: a}, err
	}
}
