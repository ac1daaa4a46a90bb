package whnf

import (
	"slices"

	"vademecum/api"
	"vademecum/recur"
	"vademecum/term"
)

// recursor: a family's recursor f, applied up to its major at least, which is one of the arguments.
type recursor struct {
	f          *api.Term
	args       []*api.Term
	d          api.Decl
	params, at int
}

// recursor tells whether a term is a recursor applied up to its major at least.
func (r *reduction) recursor(t *api.Term) (recursor, bool) {
	f, args := apart(t)
	if f == nil || f.Kind != api.TConst {
		return recursor{}, false
	}
	name, ok := term.Rec(f.Name)
	if !ok {
		return recursor{}, false
	}
	d := r.find(name)
	params, indices := max(d.Family.Params, 0), max(d.Family.Indices, 0)
	// An Env lets in a family of any numbers: their sum needn't be an int.
	if d.Kind != api.DFamily || max(params, indices) > len(args) {
		return recursor{}, false
	}
	at := params + 1 + len(d.Family.Cons) + indices
	return recursor{f: f, args: args, d: d, params: params, at: at}, at < len(args)
}

// constructor tells which constructor a major is, and its arguments behind the parameters, if it is applied to just as many as it has.
func (w recursor) constructor(major *api.Term) (int, []*api.Term, bool) {
	f, args := apart(major)
	if f == nil || f.Kind != api.TConst {
		return 0, nil, false
	}
	k := slices.IndexFunc(w.d.Family.Cons, func(c api.Con) bool { return c.Name == f.Name })
	if k < 0 {
		return 0, nil, false
	}
	types, _ := recur.Args(w.d, k)
	if len(args) != w.params+len(types) {
		return 0, nil, false
	}
	return k, args[w.params:], true
}

// rule is what the recursor comes to, if its major is a constructor applied to arguments.
func (w recursor) rule(k int, args []*api.Term) *api.Term {
	ahead := allBounded(w.args[:w.params+1+len(w.d.Family.Cons)])
	return recur.Rule(w.d, w.f.N, k, ahead[:w.params], ahead[w.params], ahead[w.params+1:], allBounded(args))
}

// with is the recursor applied as it is, but to another major.
func (w recursor) with(major *api.Term) *api.Term {
	w.args[w.at] = major
	return applied(w.f, w.args)
}
