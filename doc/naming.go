package doc

import (
	"slices"
	"strings"

	"vademecum/api"
	"vademecum/env"
	"vademecum/space"
	"vademecum/term"
)

// whole is a sentence with terms, with whole names for those that it says and makes.
func (d *Doc) whole(x api.Sentence) (api.Sentence, error) {
	for _, t := range terms(x) {
		if !term.Is(t) {
			return api.Sentence{}, fault{name: x.Name, what: "a term of it is none", why: api.ErrForm}
		}
	}
	y := api.Sentence{Kind: x.Kind, N: x.N, Name: space.Full(d.opens, x.Name)}
	var err error
	if y.A, err = space.Term(d.declared(), d.opens, x.A); err != nil {
		return api.Sentence{}, err
	}
	switch x.Kind {
	case api.SDef:
		y.B, err = space.Term(d.declared(), d.opens, x.B)
	case api.SFamily:
		y.Cons, err = d.cons(x)
	}
	return y, err
}

// terms are the terms of a sentence that has some, from the left.
func terms(x api.Sentence) []*api.Term {
	l := []*api.Term{x.A}
	switch x.Kind {
	case api.SDef:
		l = append(l, x.B)
	case api.SFamily:
		for _, c := range x.Cons {
			l = append(l, c.Type)
		}
	}
	return l
}

// cons are a family's constructors with whole names.
func (d *Doc) cons(x api.Sentence) ([]api.Con, error) {
	n := newNaming(d, x.Name)
	var l []api.Con
	for _, c := range x.Cons {
		t, err := n.term(c.Type)
		if err != nil {
			return nil, err
		}
		// One too many is told like any number of them.
		if len(l) <= api.MaxCons {
			l = append(l, api.Con{Name: space.Full(d.opens, c.Name), Type: t})
		}
	}
	return l, nil
}

// naming: what names stand for, as if a family were there already. It can't always be put into an Env to ask that one: there may be no room for it, something else may have its name, and that may be no name.
type naming struct {
	env   *env.Env
	opens []api.Open
	whole string   // the family's name
	short []string // the names that it may be said by: its whole one, the one without the outermost namespace, .. its own
	// An Env makes a declaration anew each time it tells it, so each name is found but once.
	found map[string]finding
}

// finding: what a name stands for.
type finding struct{ whole string }

// newNaming is the naming for the constructors of a family.
func newNaming(d *Doc, family string) *naming {
	n := &naming{env: d.declared(), opens: d.opens, whole: space.Full(d.opens, family), found: map[string]finding{}}
	for i := range len(d.opens) + 1 {
		n.short = append(n.short, space.Full(d.opens[i:], family))
	}
	return n
}

// term makes a term anew, each constant with its whole name; the error is of the first one from the left that has none.
func (n *naming) term(t *api.Term) (*api.Term, error) {
	if t == nil {
		return nil, nil
	}
	node := *t
	var err error
	if t.Kind == api.TConst {
		node.Name, err = n.find(t.Name)
	}
	for _, part := range []**api.Term{&node.A, &node.B, &node.C} {
		if err == nil {
			*part, err = n.term(*part)
		}
	}
	return &node, err
}

// find tells the whole name that a name stands for.
func (n *naming) find(name string) (string, error) {
	if f, ok := n.found[name]; ok {
		return f.whole, nil
	}
	whole, ok := space.Find(n.env, n.opens, name)
	// Of two the one with more namespaces ahead is taken.
	if own, is := n.own(name); is && (!ok || len(own) > len(whole)) {
		whole, ok = own, true
	}
	if !ok {
		return "", fault{name: name, what: "no such name", why: api.ErrName}
	}
	n.found[name] = finding{whole}
	return whole, nil
}

// own tells the whole name, if a name may stand for the family or its recursor.
func (n *naming) own(name string) (string, bool) {
	for _, end := range []string{"", ".rec"} {
		said, ok := strings.CutSuffix(name, end)
		if ok && slices.Contains(n.short, said) && n.has(n.whole+end) {
			return n.whole + end, true
		}
	}
	return "", false
}

// has tells whether the family, were it there, would be found by a whole name. Only the whole name tells whether it is a recursor's: that may be another family's, and too long a one is none.
func (n *naming) has(whole string) bool {
	family, rec := term.Rec(whole)
	if !rec {
		family = whole
	}
	return family == n.whole
}
