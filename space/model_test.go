package space_test

import (
	"math/rand"
	"regexp"
	"testing"

	"vademecum/api"
	"vademecum/env"
	"vademecum/space"
)

// The model is the chapter word by word, with a row of declarations that is gone through for each name.

var aRec = regexp.MustCompile(`^([a-zA-Z][a-zA-Z0-9_.]*)\.rec$`)

// modelFull is the names of the namespaces, and the name.
func modelFull(l []api.Open, name string) string {
	for i := len(l) - 1; i >= 0; i-- {
		if !l[i].Section {
			name = l[i].Name + "." + name
		}
	}
	return name
}

// modelHas tells whether one of the declarations has a name, or is the family of a Rec.
func modelHas(decls []api.Decl, whole string) bool {
	rec := aRec.FindStringSubmatch(whole)
	for _, d := range decls {
		if rec == nil && d.Name == whole || rec != nil && d.Name == rec[1] && d.Kind == api.DFamily {
			return true
		}
	}
	return false
}

// modelFind takes what is open away one by one, sections too: that changes nothing of the name.
func modelFind(decls []api.Decl, l []api.Open, name string) (string, bool) {
	for n := len(l); n >= 0; n-- {
		if whole := modelFull(l[:n], name); modelHas(decls, whole) {
			return whole, true
		}
	}
	return name, false
}

// modelTerm is a term with whole names; lacks is told of each name that isn't there.
func modelTerm(decls []api.Decl, l []api.Open, t *api.Term, lacks func(name string)) *api.Term {
	if t == nil {
		return nil
	}
	name := t.Name
	if t.Kind == api.TConst {
		whole, ok := modelFind(decls, l, name)
		if !ok {
			lacks(name)
		}
		name = whole
	}
	return &api.Term{Kind: t.Kind, N: t.N, Name: name, A: modelTerm(decls, l, t.A, lacks), B: modelTerm(decls, l, t.B, lacks), C: modelTerm(decls, l, t.C, lacks)}
}

// maker makes random things, of few parts of names, so that they meet.
type maker struct {
	r *rand.Rand
}

func (m maker) oneOf(l ...string) string { return l[m.r.Intn(len(l))] }

// name is a name of a few parts.
func (m maker) name() string {
	name := m.oneOf("a", "b", "s", "s", "t")
	for m.r.Intn(3) == 0 {
		name += "." + m.oneOf("a", "b", "s", "t", "rec", "rec")
	}
	if m.r.Intn(40) == 0 {
		name += m.oneOf(".", "..", " ", ".rec", ".rec.rec", "."+long(20), "."+long(22), long(30))
	}
	return name
}

// decls are declarations that an Env lets in.
func (m maker) decls() ([]api.Decl, *env.Env) {
	e := env.New()
	for range m.r.Intn(16) {
		d := api.Decl{Kind: []int{api.DAxiom, api.DDef, api.DFamily, api.DFamily, api.DFamily, api.DCon, 0}[m.r.Intn(7)], Name: m.name(), Type: sort(0)}
		if next, err := e.Add(d); err == nil {
			e = next
		}
	}
	return e.List(), e
}

// opens are namespaces and sections that are open.
func (m maker) opens() []api.Open {
	l := make([]api.Open, m.r.Intn(6))
	for i := range l {
		l[i] = api.Open{Section: m.r.Intn(4) == 0, Name: m.oneOf("a", "b", "s", "s", "s", "t"), From: m.r.Intn(3)}
		if m.r.Intn(12) == 0 {
			l[i].Name = m.oneOf("", "s.t", "a.b", ".", "1", "rec", long(24), "s ")
		}
	}
	return l
}

// said is a name that may be there.
func (m maker) said(decls []api.Decl) string {
	name := m.name()
	if len(decls) > 0 && m.r.Intn(3) > 0 {
		name = decls[m.r.Intn(len(decls))].Name
	}
	// Not always all of it.
	if at := m.r.Intn(len(name)); name[at] == '.' {
		name = name[at+1:]
	}
	if m.r.Intn(5) == 0 {
		name += ".rec"
	}
	return name
}

// known is a name that is there, if some trials find one.
func (m maker) known(decls []api.Decl, l []api.Open) string {
	for range 20 {
		name := m.said(decls)
		if _, ok := modelFind(decls, l, name); ok {
			return name
		}
	}
	return m.said(decls)
}

// term is a term of so many nodes in one another at most, with names out of a function.
func (m maker) term(deep int, name func() string) *api.Term {
	if deep == 0 || m.r.Intn(5) == 0 {
		return []*api.Term{sort(m.r.Intn(10)), variable(m.r.Intn(5)), constant(name()), constant(name()), eliminator(name(), m.r.Intn(10))}[m.r.Intn(5)]
	}
	part := func() *api.Term { return m.term(deep-1, name) }
	switch m.r.Intn(5) {
	case 0:
		return pi(part(), part())
	case 1:
		return lam(part(), part())
	case 2:
		return let(part(), part(), part())
	}
	return app(part(), part())
}

func TestP19_1FindRandom(t *testing.T) {
	m := maker{rand.New(rand.NewSource(191))}
	var found, inner, recs int
	for range 4000 {
		decls, e := m.decls()
		l := m.opens()
		for range 12 {
			name := m.said(decls)
			want, ok := modelFind(decls, l, name)
			if got, is := space.Find(e, l, name); got != want || is != ok {
				t.Fatalf("%v, %v: find %q: %q, %v; want %q, %v", decls, l, name, got, is, want, ok)
			}
			if got := space.Full(l, name); got != modelFull(l, name) {
				t.Fatalf("%v: full %q: %q", l, name, got)
			}
			if ok {
				found++
			}
			if ok && want != name {
				inner++
			}
			if ok && aRec.MatchString(want) {
				recs++
			}
		}
	}
	if found < 10000 || found > 38000 || inner < 1500 || recs < 800 {
		t.Errorf("%d found, %d of them in namespaces, %d recursors", found, inner, recs)
	}
}

func TestP19_1TermRandom(t *testing.T) {
	m := maker{rand.New(rand.NewSource(192))}
	made := 0
	for i := range 6000 {
		decls, e := m.decls()
		l := m.opens()
		x := m.term(1+m.r.Intn(5), func() string {
			if i%2 == 0 && m.r.Intn(20) == 0 {
				return m.said(decls)
			}
			return m.known(decls, l)
		})
		var lacks []string
		want := modelTerm(decls, l, x, func(name string) { lacks = append(lacks, name) })
		if len(lacks) > 0 {
			refused(t, "random", e, l, x, lacks[0])
			continue
		}
		becomes(t, "random", e, l, x, want)
		made++
		// Whole names are what they are, where nothing is open.
		becomes(t, "random, again", e, nil, want, want)
	}
	if made < 1500 || made > 5500 {
		t.Errorf("%d of 6000 terms have all their names", made)
	}
}
