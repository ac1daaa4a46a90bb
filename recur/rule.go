package recur

import (
	"slices"

	"vademecum/api"
	"vademecum/shift"
	"vademecum/spine"
)

// rule: what a family's recursor comes to, if its major is a constructor applied.
type rule struct {
	d              api.Decl
	params, minors []*api.Term
	rec            *api.Term
	// ahead: what the recursor is applied to, ahead of the indices.
	ahead []*api.Term
}

func ruleOf(d api.Decl, sort int, params []*api.Term, p *api.Term, minors []*api.Term) rule {
	return rule{
		d:      d,
		params: params,
		minors: minors,
		rec:    &api.Term{Kind: api.TConst, N: sort, Name: d.Name + ".rec"},
		ahead:  slices.Concat(params, []*api.Term{p}, minors),
	}
}

// of is what it comes to of a constructor applied to arguments.
func (r rule) of(k int, args []*api.Term) *api.Term {
	l := slices.Clone(args)
	row := slices.Concat(r.params, args)
	types, _ := Args(r.d, k)
	for i, a := range types[:min(len(types), len(args))] {
		// It is asked ahead of putting in: what is put in for a parameter may end in the family, too.
		if _, _, ok := Deep(r.d, a); ok {
			l = append(l, r.again(shift.All(a, row[:len(r.params)+i]...), args[i]))
		}
	}
	return spine.Apply(r.minors[k], l...)
}

// again is the recursor of an argument that is Deep, by its type.
func (r rule) again(a, arg *api.Term) *api.Term {
	own, ends, _ := apart(r.d, a)
	arg = spine.Apply(shift.Lift(arg, len(own), 0), spine.Vars(len(own), 0)...)
	l := slices.Concat(lifted(r.ahead, len(own)), ends, []*api.Term{arg})
	return spine.Lam(own, spine.Apply(r.rec, l...))
}

// lifted are terms as they are under so many binders more.
func lifted(l []*api.Term, by int) []*api.Term {
	l = slices.Clone(l)
	for i, t := range l {
		l[i] = shift.Lift(t, by, 0)
	}
	return l
}
