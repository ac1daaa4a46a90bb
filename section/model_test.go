package section_test

import (
	"errors"
	"math/rand"
	"regexp"
	"slices"
	"strings"
	"testing"

	"vademecum/api"
	"vademecum/env"
	"vademecum/section"
	"vademecum/spine"
	"vademecum/term"
)

// The model is the chapter word by word: sets of names grow until they grow no more, and all variables are bound at once.

// set is names.
type set map[string]bool

// list is the names of a set, rising.
func (s set) list() []string {
	var l []string
	for name := range s {
		l = append(l, name)
	}
	slices.Sort(l)
	return l
}

// addAll adds names, and tells whether one of them wasn't there.
func (s set) addAll(l set) bool {
	before := len(s)
	for name := range l {
		s[name] = true
	}
	return len(s) > before
}

var aRec = regexp.MustCompile(`^([a-zA-Z][a-zA-Z0-9_.]*)\.rec$`)

// modelNames are the names that a term has.
func modelNames(t *api.Term) set {
	s := set{}
	if !term.Is(t) {
		return s
	}
	var walk func(t *api.Term)
	walk = func(t *api.Term) {
		if t == nil {
			return
		}
		if t.Kind == api.TConst {
			name := t.Name
			if rec := aRec.FindStringSubmatch(name); rec != nil {
				name = rec[1]
			}
			s[name] = true
		}
		walk(t.A)
		walk(t.B)
		walk(t.C)
	}
	walk(t)
	return s
}

// modelUses is what a term uses.
func modelUses(decls []api.Decl, t *api.Term) set {
	s := modelNames(t)
	for grown := true; grown; {
		grown = false
		for _, d := range decls {
			if !s[d.Name] {
				continue
			}
			terms := []*api.Term{d.Type, d.Value}
			if d.Kind == api.DFamily {
				for _, c := range d.Family.Cons {
					terms = append(terms, c.Type)
				}
			}
			for _, x := range terms {
				grown = s.addAll(modelNames(x)) || grown
			}
		}
	}
	return s
}

// modelNeeds is what terms need.
func modelNeeds(decls, vars []api.Decl, terms ...*api.Term) []api.Decl {
	used := set{}
	for _, x := range terms {
		used.addAll(modelUses(decls, x))
	}
	for grown := true; grown; {
		grown = false
		for _, v := range vars {
			if used[v.Name] {
				grown = used.addAll(modelUses(decls, v.Type)) || grown
			}
		}
	}
	var l []api.Decl
	for _, v := range vars {
		if used[v.Name] {
			l = append(l, v)
		}
	}
	return l
}

// modelApplied is a term with each constant that was let go of variables applied to them.
func modelApplied(gone map[string][]api.Decl, t *api.Term) *api.Term {
	if t == nil {
		return nil
	}
	x := &api.Term{Kind: t.Kind, N: t.N, Name: t.Name, A: modelApplied(gone, t.A), B: modelApplied(gone, t.B), C: modelApplied(gone, t.C)}
	if t.Kind == api.TConst {
		for _, u := range gone[t.Name] {
			x = &api.Term{Kind: api.TApp, A: x, B: &api.Term{Kind: api.TConst, Name: u.Name}}
		}
	}
	return x
}

// modelBound is a term under variables, with others around, each name of which is bound; so many binders are around within it.
func modelBound(t *api.Term, vars []api.Decl, within int) *api.Term {
	if t == nil {
		return nil
	}
	x := &api.Term{Kind: t.Kind, N: t.N, Name: t.Name}
	inB, inC := within, within
	switch t.Kind {
	case api.TVar:
		if t.N >= within {
			x.N += len(vars)
		}
	case api.TConst:
		at := slices.IndexFunc(vars, func(v api.Decl) bool { return v.Name == t.Name })
		if at >= 0 {
			return &api.Term{Kind: api.TVar, N: within + len(vars) - 1 - at}
		}
	case api.TPi, api.TLam:
		inB++
	case api.TLet:
		inC++
	}
	x.A, x.B, x.C = modelBound(t.A, vars, within), modelBound(t.B, vars, inB), modelBound(t.C, vars, inC)
	return x
}

// modelClosed is a term under binders of a kind for variables.
func modelClosed(gone map[string][]api.Decl, kind int, needs []api.Decl, t *api.Term) *api.Term {
	x := modelBound(modelApplied(gone, t), needs, 0)
	for i := len(needs) - 1; i >= 0; i-- {
		x = &api.Term{Kind: kind, A: modelBound(modelApplied(gone, needs[i].Type), needs[:i], 0), B: x}
	}
	return x
}

// modelClose is what is left, or the name of the declaration that gets too large.
func modelClose(decls []api.Decl, from int, vars []api.Decl) ([]api.Decl, string) {
	from = min(max(from, 0), len(decls))
	left := slices.Clone(decls[:from])
	gone := map[string][]api.Decl{}
	for _, d := range decls[from:] {
		if slices.ContainsFunc(vars, func(v api.Decl) bool { return v.Name == d.Name }) {
			continue
		}
		if d.Kind == api.DFamily || d.Kind == api.DCon {
			left = append(left, d)
			continue
		}
		needs := modelNeeds(decls, vars, d.Type, d.Value)
		was := d
		d.Type = modelClosed(gone, api.TPi, needs, d.Type)
		if d.Value != nil {
			d.Value = modelClosed(gone, api.TLam, needs, d.Value)
		}
		if !term.Is(d.Type) || term.Is(was.Value) && !term.Is(d.Value) {
			return nil, d.Name
		}
		gone[d.Name] = needs
		left = append(left, d)
	}
	return left, ""
}

// maker makes random things, of few names, so that they meet.
type maker struct {
	r *rand.Rand
}

func (m maker) oneOf(l ...string) string { return l[m.r.Intn(len(l))] }

// name is one of a few names.
func (m maker) name() string {
	return m.oneOf("a", "b", "c", "d", "e", "f", "g", "h", "a.b", "i", "j", "k", "l", "n")
}

// term is a term of so many nodes in one another at most, with names out of a function.
func (m maker) term(deep int, name func() string) *api.Term {
	if deep == 0 || m.r.Intn(6) == 0 {
		switch m.r.Intn(8) {
		case 0:
			return sort(m.r.Intn(10))
		case 1, 2:
			if m.r.Intn(60) == 0 {
				return variable(100000 - m.r.Intn(3))
			}
			return variable(m.r.Intn(4))
		case 3:
			return &api.Term{Kind: api.TConst, Name: name() + ".rec", N: m.r.Intn(3)}
		}
		return constant(name())
	}
	part := func() *api.Term { return m.term(deep-1, name) }
	switch m.r.Intn(5) {
	case 0:
		return pi(part(), part())
	case 1:
		return lam(part(), part())
	case 2:
		return let(part(), part(), part())
	}
	return app(part(), part())
}

// decls are declarations that an Env lets in: most of them use only those ahead.
func (m maker) decls() ([]api.Decl, *env.Env) {
	e := env.New()
	var names []string
	name := func() string {
		if len(names) == 0 || m.r.Intn(25) == 0 {
			return m.oneOf("o", "p", m.name())
		}
		return m.oneOf(names...)
	}
	for range m.r.Intn(14) {
		deep := m.r.Intn(4)
		d := api.Decl{Kind: []int{api.DAxiom, api.DAxiom, api.DAxiom, api.DDef, api.DDef, api.DDef, api.DFamily, api.DCon, 0, 7}[m.r.Intn(10)], Name: m.name(), Type: m.term(deep, name)}
		switch {
		case d.Kind == api.DDef, m.r.Intn(20) == 0:
			d.Value = m.term(deep, name)
			if m.r.Intn(20) == 0 {
				d.Value = app(d.Value, []*api.Term{nil, sort(10), {}, {Kind: api.TVar, N: 1, Name: "a"}, variable(100001)}[m.r.Intn(5)])
			}
		case d.Kind == api.DFamily, m.r.Intn(20) == 0:
			for range m.r.Intn(3) {
				d.Family.Cons = append(d.Family.Cons, api.Con{Name: m.name(), Type: m.term(deep, name)})
			}
		}
		if next, err := e.Add(d); err == nil {
			e = next
			names = append(names, d.Name)
		}
	}
	return e.List(), e
}

// vars are some of the declarations, and others, of each name one.
func (m maker) vars(decls []api.Decl) []api.Decl {
	var l []api.Decl
	there := set{}
	add := func(d api.Decl) {
		if !there[d.Name] {
			there[d.Name] = true
			l = append(l, d)
		}
	}
	for _, d := range decls {
		if m.r.Intn(3) == 0 && (d.Kind == api.DAxiom || m.r.Intn(6) == 0) {
			add(d)
		}
	}
	for m.r.Intn(5) == 0 {
		add(api.Decl{Kind: api.DAxiom, Name: m.name(), Type: m.term(m.r.Intn(3), m.name)})
	}
	if m.r.Intn(6) == 0 {
		m.r.Shuffle(len(l), func(i, j int) { l[i], l[j] = l[j], l[i] })
	}
	return l
}

func TestP20_1Random(t *testing.T) {
	m := maker{rand.New(rand.NewSource(201))}
	long, needed, more := 0, 0, 0
	for range 3000 {
		decls, e := m.decls()
		vars := m.vars(decls)
		for range 6 {
			terms := make([]*api.Term, m.r.Intn(4))
			for i := range terms {
				terms[i] = m.term(m.r.Intn(3), m.name)
				want := modelUses(decls, terms[i]).list()
				if got := section.Uses(e, terms[i]); !slices.Equal(got, want) {
					t.Fatalf("%s%s uses %q, want %q", tellAll(decls), tell(terms[i]), got, want)
				}
				if len(want) > 5 {
					long++
				}
			}
			var want []string
			for _, v := range modelNeeds(decls, vars, terms...) {
				want = append(want, v.Name)
			}
			if got := section.Needs(e, vars, terms...); !slices.Equal(got, want) {
				t.Fatalf("%svars\n%s%v needs %q, want %q", tellAll(decls), tellAll(vars), terms, got, want)
			}
			if len(want) > 0 {
				needed++
			}
			if len(want) > 2 {
				more++
			}
		}
	}
	if long < 3000 || needed < 3000 || more < 150 {
		t.Errorf("%d use more than 5, %d need some, %d more than two", long, needed, more)
	}
}

func TestP20_2Random(t *testing.T) {
	m := maker{rand.New(rand.NewSource(202))}
	changed, applied, large := 0, 0, 0
	for range 6000 {
		decls, e := m.decls()
		vars := m.vars(decls)
		from := m.r.Intn(len(decls)+4) - 2
		if m.r.Intn(2) == 0 {
			from = 0
		}
		want, wrong := modelClose(decls, from, vars)
		got, err := section.Close(e, from, vars)
		if wrong != "" {
			large++
			if got != nil || !errors.Is(err, api.ErrLarge) || !strings.Contains(err.Error(), `"`+wrong+`"`) {
				t.Fatalf("%sfrom %d vars\n%s: %v, want %q too large", tellAll(decls), from, tellAll(vars), err, wrong)
			}
			continue
		}
		if err != nil || !slices.EqualFunc(got.List(), want, env.Same) {
			t.Fatalf("%sfrom %d vars\n%s: %v\n%swant\n%s", tellAll(decls), from, tellAll(vars), err, tellAll(got.List()), tellAll(want))
		}
		if !slices.EqualFunc(e.List(), decls, env.Same) {
			t.Fatal("the Env is changed")
		}
		for _, d := range want {
			was := named(decls, d.Name)[0]
			if env.Same(d, was) {
				continue
			}
			changed++
			row, _ := spine.Pis(d.Type, len(modelNeeds(decls, vars, was.Type, was.Value)))
			if nodes := term.Size(spine.Pi(row, was.Type)); term.Size(d.Type) > nodes {
				applied++
			}
		}
	}
	if changed < 3000 || applied < 200 || large < 5 {
		t.Errorf("%d changed, %d applied, %d too large", changed, applied, large)
	}
}
