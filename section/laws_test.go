package section_test

import (
	"fmt"
	"math/rand"
	"slices"
	"strconv"
	"testing"

	"vademecum/admit"
	"vademecum/api"
	"vademecum/conv"
	"vademecum/env"
	"vademecum/infer"
	"vademecum/section"
	"vademecum/spine"
	"vademecum/term"
)

// told lets declarations into an Env by their types; constructors come with their families.
func told(e *env.Env, l ...api.Decl) (*env.Env, error) {
	for _, d := range l {
		var err error
		next := e
		switch d.Kind {
		case api.DAxiom:
			next, err = admit.Axiom(e, d.Name, d.Type, api.MaxFuel)
		case api.DDef:
			next, err = admit.Def(e, d.Name, d.Type, d.Value, api.MaxFuel)
		case api.DFamily:
			next, err = admit.Family(e, d.Name, d.Family.Params, d.Type, d.Family.Cons, api.MaxFuel)
		}
		if err != nil {
			return nil, err
		}
		e = next
	}
	return e, nil
}

// checker makes a section whose declarations are of their types.
type checker struct {
	r     *rand.Rand
	e     *env.Env
	types []*api.Term            // constants and products of sort 0
	known map[string][]*api.Term // constants by their types, which are told as texts
}

// add adds a declaration, and what can be said of it.
func (c *checker) add(t *testing.T, d api.Decl) {
	t.Helper()
	next, err := told(c.e, d)
	if err != nil {
		t.Fatalf("%s: %v", tellDecl(d), err)
	}
	c.e = next
	c.known[tell(d.Type)] = append(c.known[tell(d.Type)], constant(d.Name))
	if term.Same(d.Type, sort(0)) {
		c.types = append(c.types, constant(d.Name))
	}
}

// typ is a type of sort 0.
func (c *checker) typ() *api.Term {
	// Rather a late one.
	x := c.types[max(c.r.Intn(len(c.types)), c.r.Intn(len(c.types)))]
	if c.r.Intn(3) == 0 {
		return pi(x, c.typ())
	}
	if l := c.known[tell(parsed("nat -> Type0"))]; c.r.Intn(3) == 0 && len(l) > 0 {
		return app(l[c.r.Intn(len(l))], c.value(constant("nat")))
	}
	return x
}

// value is a value of a type of sort 0, if some are known.
func (c *checker) value(a *api.Term) *api.Term {
	l := c.known[tell(a)]
	switch {
	case len(l) > 0 && c.r.Intn(4) > 0:
		return l[max(c.r.Intn(len(l)), c.r.Intn(len(l)))]
	case a.Kind == api.TPi:
		return lam(a.A, c.value(a.B))
	case tell(a) == "nat" && c.r.Intn(2) == 0:
		return app(constant("s"), c.value(a))
	case len(l) > 0 && c.r.Intn(2) == 0:
		return app(lam(a, variable(0)), c.value(a))
	case len(l) > 0:
		return let(a, c.value(a), variable(0))
	}
	return constant("none") // there is none: what has it isn't let in
}

// newChecker is a checker with some declarations ahead.
func newChecker(t *testing.T, r *rand.Rand) *checker {
	c := &checker{r: r, e: env.New(), known: map[string][]*api.Term{}}
	for _, d := range decls("fam nat : Type0 | o : nat | s : nat -> nat", "fam unit : Type0 | star : unit", "p : nat -> Type0", "absurd : pi A : Type0 , A") {
		d.Family.Params, d.Family.Indices, d.Family.Sort = 0, 0, 0
		if d.Kind != api.DCon {
			c.add(t, d)
		} else {
			c.known[tell(d.Type)] = append(c.known[tell(d.Type)], constant(d.Name))
		}
	}
	return c
}

// section makes a section, and tells its variables.
func (c *checker) section(t *testing.T) []api.Decl {
	var vars []api.Decl
	for i := range 8 + c.r.Intn(8) {
		d := api.Decl{Kind: []int{api.DAxiom, api.DDef, api.DDef}[c.r.Intn(3)], Name: "v" + strconv.Itoa(i), Type: c.typ()}
		switch c.r.Intn(6) {
		case 0:
			d.Kind, d.Type = api.DAxiom, sort(0)
		case 1:
			d.Kind, d.Type = api.DAxiom, parsed("nat -> Type0")
		case 2:
			d.Type, d.Value = sort(0), c.typ()
			if d.Kind == api.DAxiom {
				d.Value = nil
			}
		default:
			if d.Kind == api.DDef {
				d.Value = c.value(d.Type)
			}
		}
		if term.Has(d.Type, "none") || d.Value != nil && term.Has(d.Value, "none") {
			continue
		}
		c.add(t, d)
		// Not each axiom is a variable.
		if d.Kind == api.DAxiom && c.r.Intn(5) > 0 {
			vars = append(vars, d)
		}
	}
	return vars
}

// What is left of a section is of its type, and nothing is left of the variables; for the variables themselves it is what was said of them.
func TestP20_3Said(t *testing.T) {
	r := rand.New(rand.NewSource(203))
	bound, through := 0, 0
	for i := range 1500 {
		c := newChecker(t, r)
		from := c.e.Len()
		vars := c.section(t)
		what := fmt.Sprintf("section %d:\n%svars\n%s", i, tellAll(c.e.List()[from:]), tellAll(vars))
		got, err := section.Close(c.e, from, vars)
		if err != nil {
			t.Fatalf("%s%v", what, err)
		}
		again, err := told(env.New(), got.List()...)
		if err != nil || !slices.EqualFunc(again.List(), got.List(), env.Same) {
			t.Fatalf("%s%v:\n%s", what, err, tellAll(got.List()[from:]))
		}
		for _, d := range got.List() {
			for _, v := range vars {
				if term.Has(d.Type, v.Name) || term.Has(d.Value, v.Name) || d.Name == v.Name {
					t.Fatalf("%s%s has %s", what, tellDecl(d), v.Name)
				}
			}
			was := named(c.e.List(), d.Name)[0]
			if n := len(section.Needs(c.e, vars, was.Type, was.Value)); d.Kind == api.DDef && n > 0 {
				bound++
				if n > 1 {
					through++
				}
			}
		}
		c.same(t, what, got, vars)
	}
	if bound < 1000 || through < 150 {
		t.Errorf("%d were let go of variables, %d of more than one", bound, through)
	}
}

// same tells whether what is left, applied to the variables, is what it was, where the variables are there again.
func (c *checker) same(t *testing.T, what string, closed *env.Env, vars []api.Decl) {
	t.Helper()
	gone := map[string][]string{}
	for _, d := range closed.List() {
		was := named(c.e.List(), d.Name)[0]
		if was.Kind == api.DAxiom || was.Kind == api.DDef {
			gone[d.Name] = section.Needs(c.e, vars, was.Type, was.Value)
		}
	}
	var again func(t *api.Term) *api.Term
	again = func(t *api.Term) *api.Term {
		if t == nil {
			return nil
		}
		x := &api.Term{Kind: t.Kind, N: t.N, Name: t.Name, A: again(t.A), B: again(t.B), C: again(t.C)}
		if t.Kind == api.TConst {
			for _, u := range gone[t.Name] {
				x = app(x, constant(u))
			}
		}
		return x
	}
	e := closed
	for _, v := range vars {
		v.Type = again(v.Type)
		next, err := told(e, v)
		if err != nil {
			t.Fatalf("%s%s: %v", what, tellDecl(v), err)
		}
		e = next
	}
	for _, d := range c.e.List() {
		if d.Kind != api.DDef {
			continue
		}
		if _, err := infer.Check(e, nil, again(constant(d.Name)), again(d.Type), api.MaxFuel); err != nil {
			t.Fatalf("%s%s isn't of its type any more: %v", what, d.Name, err)
		}
		if ok, _, err := conv.Conv(e, again(constant(d.Name)), again(d.Value), false, api.MaxFuel); !ok || err != nil {
			t.Fatalf("%s%s isn't what it was: %v", what, d.Name, err)
		}
	}
}

// Sections in one another come to the same as one with all variables.
func TestP20_3InOneAnother(t *testing.T) {
	r := rand.New(rand.NewSource(204))
	for i := range 800 {
		c := newChecker(t, r)
		from := c.e.Len()
		vars := c.section(t)
		if len(vars) == 0 {
			continue
		}
		what := fmt.Sprintf("section %d:\n%svars\n%s", i, tellAll(c.e.List()[from:]), tellAll(vars))
		// The inner section begins at one of the variables.
		n := r.Intn(len(vars))
		at := slices.IndexFunc(c.e.List(), func(d api.Decl) bool { return d.Name == vars[n].Name })
		inner, err := section.Close(c.e, at, vars[n:])
		if err != nil {
			t.Fatalf("%s%v", what, err)
		}
		got, err := section.Close(inner, from, vars[:n])
		if err != nil {
			t.Fatalf("%s%v", what, err)
		}
		want, err := section.Close(c.e, from, vars)
		if err != nil || !slices.EqualFunc(got.List(), want.List(), env.Same) {
			t.Fatalf("%s%v\n%swant\n%s", what, err, tellAll(got.List()[from:]), tellAll(want.List()[from:]))
		}
	}
}

// What was said of a variable holds of anything of its type.
func TestP20_3OfAll(t *testing.T) {
	c := newChecker(t, rand.New(rand.NewSource(205)))
	from := c.e.Len()
	l := decls("A : Type0", "x : A", "id : A -> A := fun y : A => y", "ix : A := id x", "P : A -> Type0", "h : pi y : A , P ( id y )", "k : P ix := h x")
	for _, d := range l {
		c.add(t, d)
	}
	e, err := section.Close(c.e, from, named(l, "A", "x", "P", "h"))
	if err != nil {
		t.Fatal(err)
	}
	e, err = told(e, decls("q : nat -> Type0", "all : pi n : nat , q n", "one : nat := s o", "qone : q one := k nat one q all")...)
	if err != nil {
		t.Fatal(err)
	}
	qone, _ := e.Find("qone")
	if ok, _, err := conv.Conv(e, qone.Value, parsed("all ( id nat one )"), false, api.MaxFuel); !ok || err != nil {
		t.Errorf("%v, %v", ok, err)
	}
	f, args := spine.Head(qone.Value)
	if f.Name != "k" || len(args) != 4 {
		t.Errorf("%s", tell(qone.Value))
	}
	if _, err := infer.Check(e, nil, parsed("k unit star ( fun u : unit => nat ) ( fun u : unit => o )"), parsed("nat"), api.MaxFuel); err != nil {
		t.Error(err)
	}
	if _, err := infer.Check(e, nil, parsed("k unit o"), parsed("nat"), api.MaxFuel); err == nil {
		t.Error("of another type")
	}
}
