package space

import (
	"slices"

	"vademecum/api"
	"vademecum/env"
	"vademecum/term"
)

// longest: so many bytes a whole name has at most, that of a recursor.
const longest = api.MaxName + len(".rec")

// scope: what names stand for where namespaces are open.
type scope struct {
	env   *env.Env
	ahead []string // what the namespaces put ahead of a name: none of them, the outermost, .. all
	// Each declaration that an Env tells is made anew with all that hangs on it, so it is asked but once for one.
	asked map[string]standing
}

// standing: whether a name is declared, and as what.
type standing struct {
	ok   bool
	kind int
}

// newScope is the scope of an Env and of what is open.
func newScope(e *env.Env, l []api.Open) *scope {
	s := &scope{env: e, ahead: []string{""}, asked: map[string]standing{}}
	ahead := ""
	for _, name := range namespaces(l) {
		ahead += name + "."
		// So long a name isn't there, nor with more namespaces; there may be far too many of them to make all.
		if len(ahead) > longest {
			break
		}
		s.ahead = append(s.ahead, ahead)
	}
	return s
}

// namespaces are the names of the namespaces among what is open.
func namespaces(l []api.Open) []string {
	var names []string
	for _, o := range l {
		if !o.Section {
			names = append(names, o.Name)
		}
	}
	return names
}

// find tells the whole name that a name stands for.
func (s *scope) find(name string) (string, error) {
	for _, ahead := range slices.Backward(s.ahead) {
		if len(ahead)+len(name) <= longest && s.has(ahead+name) {
			return ahead + name, nil
		}
	}
	return "", fault{name: name, why: api.ErrName}
}

// has tells whether there is what has a whole name: a declaration, or the recursor of one that is a family.
func (s *scope) has(whole string) bool {
	if family, rec := term.Rec(whole); rec {
		return s.standing(family).kind == api.DFamily
	}
	return s.standing(whole).ok
}

// standing tells how a whole name stands in the Env.
func (s *scope) standing(whole string) standing {
	as, asked := s.asked[whole]
	if !asked {
		d, ok := s.env.Find(whole)
		as = standing{ok: ok, kind: d.Kind}
		s.asked[whole] = as
	}
	return as
}
