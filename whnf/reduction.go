package whnf

import (
	"errors"
	"slices"

	"vademecum/api"
	"vademecum/env"
	"vademecum/shift"
	"vademecum/term"
)

// reduction: a term that is being reduced, and what is left of fuel.
type reduction struct {
	env  *env.Env
	fuel int
	// found: the declarations that were asked for. An Env makes one anew whenever it is asked.
	found map[string]api.Decl
}

func newReduction(e *env.Env, fuel int) *reduction {
	return &reduction{env: e, fuel: fuel, found: map[string]api.Decl{}}
}

// step makes one step of a term; a major's steps are made ahead of that, as many as there are. What is stuck is told beside errStuck, with its major reduced.
func (r *reduction) step(t *api.Term) (*api.Term, error) {
	// The major of each recursor that waits is the next one, the last one's is t. They stand in a list, and no call waits in another one, as there may be as many as there is fuel.
	var waiting []recursor
	nested := 0 // how many parts were gone into since the last step
	for {
		if w, ok := r.recursor(t); ok && nested < deepest {
			waiting = append(waiting, w)
			t = w.args[w.at]
			nested += len(w.args) - w.at
			continue
		}
		next, err := r.stepAtHead(t)
		for errors.Is(err, errStuck) && len(waiting) > 0 {
			last := len(waiting) - 1
			next, err = r.stepByMajor(waiting[last], next)
			waiting = waiting[:last]
		}
		if err != nil || len(waiting) == 0 {
			return next, err
		}
		t, nested = next, 0
	}
}

// stepAtHead makes the step of a term for which no major has to be asked.
func (r *reduction) stepAtHead(t *api.Term) (*api.Term, error) {
	f, args := apart(t)
	if f == nil {
		return t, errStuck
	}
	body := f.B
	switch f.Kind {
	case api.TLet:
		// A let is a function of its variable, applied to its value.
		body, args = f.C, slices.Concat([]*api.Term{f.B}, args)
		fallthrough
	case api.TLam:
		if len(args) > 0 {
			return r.taken(applied(shift.Put(bounded(body), bounded(args[0]), 0), args[1:]))
		}
	case api.TConst:
		if d := r.find(f.Name); d.Kind == api.DDef {
			return r.taken(applied(d.Value, args))
		}
	}
	return t, errStuck
}

// stepByMajor makes the step of a recursor by its major, which is reduced.
func (r *reduction) stepByMajor(w recursor, major *api.Term) (*api.Term, error) {
	k, args, ok := w.constructor(major)
	if !ok {
		return w.with(major), errStuck
	}
	return r.taken(applied(w.rule(k, args), w.args[w.at+1:]))
}

// taken is what came of a step, which takes one of fuel.
func (r *reduction) taken(t *api.Term) (*api.Term, error) {
	switch {
	case r.fuel <= 0:
		return nil, fault{what: "nothing left for a step", why: api.ErrFuel}
	case term.Size(t) > api.MaxNodes:
		return nil, fault{what: "what comes of a step has too many nodes", why: api.ErrLarge}
	}
	r.fuel--
	return t, nil
}

// find tells a declaration, or nothing of a name that has none.
func (r *reduction) find(name string) api.Decl {
	d, ok := r.found[name]
	if !ok {
		d, _ = r.env.Find(name)
		r.found[name] = d
	}
	return d
}
