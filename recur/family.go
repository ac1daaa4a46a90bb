package recur

import (
	"vademecum/api"
	"vademecum/spine"
)

// deepest: a nest of more products may be one that hangs on itself, and has no end. It is twice as many as are promised for.
const deepest = 1 << 17

// parameters tells how many parameters a family has. Whatever is handed in, there aren't fewer than none.
func parameters(d api.Decl) int {
	return max(d.Family.Params, 0)
}

// apart takes a type apart that is products around the family applied: the products' parts, what it is applied to behind the parameters, true.
func apart(d api.Decl, a *api.Term) ([]*api.Term, []*api.Term, bool) {
	own, end := spine.Pis(a, deepest)
	f, l := spine.Head(end)
	p := parameters(d)
	if f == nil || f.Kind != api.TConst || f.Name != d.Name || len(l) < p {
		return nil, nil, false
	}
	return own, l[p:], true
}

func variable(n int) *api.Term {
	return &api.Term{Kind: api.TVar, N: n}
}

func constant(name string) *api.Term {
	return &api.Term{Kind: api.TConst, Name: name}
}
