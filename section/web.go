package section

import (
	"slices"

	"vademecum/api"
	"vademecum/env"
	"vademecum/term"
)

// web: which names lead to which others, by what an Env and some variables have.
type web struct {
	env    *env.Env
	vars   []api.Decl
	places map[string][]int // where in vars those of a name stand
	// The names that each name leads to. An Env makes a declaration anew each time it tells it, so it is asked but once for one.
	leads map[string][]string
}

// newWeb is the web of an Env and of variables, which needn't be in it.
func newWeb(e *env.Env, vars []api.Decl) *web {
	w := &web{env: e, vars: vars, places: map[string][]int{}, leads: map[string][]string{}}
	for i, v := range vars {
		w.places[v.Name] = append(w.places[v.Name], i)
	}
	return w
}

// learn takes all declarations of the Env, so that it needn't be asked for them. Names that lead nowhere are left out.
func (w *web) learn(l []api.Decl) {
	for _, d := range l {
		w.leads[d.Name] = nil
	}
	for _, d := range l {
		w.leads[d.Name] = slices.DeleteFunc(w.had(d.Name, d), w.isNowhere)
	}
}

// isNowhere tells whether a name is neither one that is known nor a variable's.
func (w *web) isNowhere(name string) bool {
	_, ok := w.leads[name]
	return !ok && len(w.places[name]) == 0
}

// from tells the names that a name leads to.
func (w *web) from(name string) []string {
	l, ok := w.leads[name]
	if !ok {
		d, _ := w.env.Find(name) // one that isn't there has no terms
		l = w.had(name, d)
		w.leads[name] = l
	}
	return l
}

// had tells the names that a declaration has, and the variables of its name.
func (w *web) had(name string, d api.Decl) []string {
	l := []*api.Term{d.Type, d.Value}
	if d.Kind == api.DFamily {
		for _, c := range d.Family.Cons {
			l = append(l, c.Type)
		}
	}
	for _, at := range w.places[name] {
		l = append(l, w.vars[at].Type)
	}
	return said(l...)
}

// reached tells names, and all that these lead to.
func (w *web) reached(names []string) map[string]struct{} {
	all := map[string]struct{}{}
	todo := slices.Clone(names)
	for len(todo) > 0 {
		name := todo[len(todo)-1]
		todo = todo[:len(todo)-1]
		if _, ok := all[name]; !ok {
			all[name] = struct{}{}
			todo = append(todo, w.from(name)...)
		}
	}
	return all
}

// needs tells where the variables stand that are reached from names.
func (w *web) needs(names []string) []int {
	var l []int
	for name := range w.reached(names) {
		l = append(l, w.places[name]...)
	}
	slices.Sort(l)
	return l
}

// names tells the names of variables.
func (w *web) names(places []int) []string {
	l := make([]string, len(places))
	for i, at := range places {
		l[i] = w.vars[at].Name
	}
	return l
}

// said tells the names that terms have; of a recursor, its family's.
func said(l ...*api.Term) []string {
	var names []string
	for _, t := range l {
		for _, name := range term.Names(t) {
			if family, rec := term.Rec(name); rec {
				name = family
			}
			names = append(names, name)
		}
	}
	return names
}
