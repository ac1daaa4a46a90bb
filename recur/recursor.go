package recur

import (
	"slices"

	"vademecum/api"
	"vademecum/shift"
	"vademecum/spine"
)

// part: the parts of a recursor's type behind the parameters, in their order.
type part int

const (
	atMotive part = iota
	atMinors
	atIndices
	atMajor
	atEnd
)

// recursor: the recursor of a family, whose type is made: the types of the family's parameters, and of its indices, each under those ahead.
type recursor struct {
	d               api.Decl
	params, indices []*api.Term
}

func recursorOf(d api.Decl) recursor {
	p := min(parameters(d), deepest)
	l, _ := spine.Pis(d.Type, min(p+min(max(d.Family.Indices, 0), deepest), deepest))
	if len(l) == deepest {
		// It has no end, and nothing is made of it.
		l = nil
	}
	p = min(p, len(l))
	return recursor{d: d, params: l[:p], indices: l[p:]}
}

// typeInto is the recursor's type, if it eliminates into a sort.
func (r recursor) typeInto(sort int) *api.Term {
	l := slices.Concat(r.params, []*api.Term{r.motive(sort)})
	for k := range r.d.Family.Cons {
		l = append(l, r.minor(k))
	}
	for i, x := range r.indices {
		l = append(l, moved(x, i, r.ahead(atIndices), 0))
	}
	l = append(l, r.family(r.ahead(atIndices)))
	return spine.Pi(l, r.claim(r.ahead(atEnd), spine.Vars(len(r.indices)+1, 0)))
}

// ahead tells how many variables stand between the parameters and the first one of a part: what is ahead of a part is ahead of those behind it, too.
func (r recursor) ahead(p part) int {
	n := 0
	switch p {
	case atEnd:
		n++
		fallthrough
	case atMajor:
		n += len(r.indices)
		fallthrough
	case atIndices:
		n += len(r.d.Family.Cons)
		fallthrough
	case atMinors:
		n++
	}
	return n
}

// family is the family applied to parameters and indices, under the indices, with so many variables between those two.
func (r recursor) family(between int) *api.Term {
	params := spine.Vars(len(r.params), between+len(r.indices))
	return spine.Apply(constant(r.d.Name), slices.Concat(params, spine.Vars(len(r.indices), 0))...)
}

// claim is the motive applied to a list, where so many variables stand behind the parameters. The motive is the first of them.
func (r recursor) claim(behind int, l []*api.Term) *api.Term {
	return spine.Apply(variable(behind-1), l...)
}

// motive is the motive's type.
func (r recursor) motive(sort int) *api.Term {
	l := slices.Concat(r.indices, []*api.Term{r.family(r.ahead(atMotive))})
	return spine.Pi(l, &api.Term{Kind: api.TSort, N: sort})
}

// minor is the type of a constructor's minor.
func (r recursor) minor(k int) *api.Term {
	args, ends := Args(r.d, k)
	between := r.ahead(atMinors) + k
	l := r.hypotheses(args, between)
	added := len(l) - len(args)
	for i, x := range ends {
		ends[i] = moved(x, len(args), between, added)
	}
	params := spine.Vars(len(r.params), between+len(l))
	con := spine.Apply(constant(r.d.Family.Cons[k].Name), slices.Concat(params, spine.Vars(len(args), added))...)
	return spine.Pi(l, r.claim(between+len(l), append(ends, con)))
}

// hypotheses are the types of a constructor's arguments, and of what is supposed of those that are Deep, with so many variables between the parameters and the arguments.
func (r recursor) hypotheses(args []*api.Term, between int) []*api.Term {
	var l []*api.Term
	for i, a := range args {
		l = append(l, moved(a, i, between, 0))
	}
	for i, a := range args {
		own, ends, ok := apart(r.d, moved(a, i, between, len(l)-i))
		if !ok {
			continue
		}
		// Here len(l) variables stand behind those between, and the products' own ones behind these.
		arg := spine.Apply(variable(len(own)+len(l)-1-i), spine.Vars(len(own), 0)...)
		l = append(l, spine.Pi(own, r.claim(between+len(l)+len(own), append(ends, arg))))
	}
	return l
}

// moved is a term that stands under the parameters and so many arguments (or indices), as it is where so many variables more stand between those two, and so many behind both.
func moved(t *api.Term, args, between, behind int) *api.Term {
	return shift.Lift(shift.Lift(t, between, args), behind, 0)
}
