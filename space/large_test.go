package space_test

import (
	"fmt"
	"strconv"
	"strings"
	"testing"

	"vademecum/api"
	"vademecum/env"
	"vademecum/space"
	"vademecum/term"
)

// told holds a large term against the one that it should be.
func told(t *testing.T, what string, e *env.Env, l []api.Open, x, want *api.Term) *api.Term {
	t.Helper()
	got, err := space.Term(e, l, x)
	if err != nil || !term.Same(got, want) {
		t.Errorf("%s: not the same: %v", what, err)
	}
	return got
}

// lacks tells whether a large term is refused.
func lacks(t *testing.T, what string, e *env.Env, l []api.Open, x *api.Term) {
	t.Helper()
	if got, err := space.Term(e, l, x); got != nil || err == nil || !strings.HasSuffix(err.Error(), api.ErrName.Error()) {
		t.Errorf("%s: %v", what, err)
	}
}

// the tells again and again a new constant of a name.
func the(name string) func() *api.Term {
	return func() *api.Term { return constant(name) }
}

// heavy is a declaration of as many nodes as one may have.
func heavy(kind int, name string) api.Decl {
	one := chain(2999, the("a"))
	d := api.Decl{Kind: kind, Name: name, Type: one, Value: one}
	for i := range api.MaxCons {
		d.Family.Cons = append(d.Family.Cons, api.Con{Name: "c" + strconv.Itoa(i), Type: one})
	}
	return d
}

// A term of as many nodes as there may be, whose constants are of large declarations, and a full Env.
func TestP19_1AtTheLimits(t *testing.T) {
	l := []api.Decl{heavy(api.DFamily, "s.f"), heavy(api.DAxiom, "s.a")}
	for len(l) < api.MaxDecls {
		l = append(l, heavy(api.DDef, "d"+strconv.Itoa(len(l))))
	}
	e := of(t, l...)
	opens := open("s", "t", "u", "v", "w", "x")
	for _, nodes := range []int{1, 2997, 2999, 3001, 3003, 20001} {
		what := fmt.Sprint(nodes, " nodes")
		told(t, what, e, opens, chain(nodes, the("a")), chain(nodes, the("s.a")))
		told(t, what+", recursors", e, opens, chain(nodes, func() *api.Term { return eliminator("f.rec", 7) }), chain(nodes, func() *api.Term { return eliminator("s.f.rec", 7) }))
		lacks(t, what, e, opens, app(chain(nodes, the("a")), constant("b")))
		lacks(t, what+", recursors", e, opens, app(constant("a.rec"), chain(nodes, the("a"))))
	}
	// Each of the declarations in one term, and under many names.
	said, want := constant("f"), constant("s.f")
	for i := 2; i < len(l); i++ {
		for range 4 {
			said, want = app(said, constant(l[i].Name)), app(want, constant(l[i].Name))
		}
	}
	told(t, "all", e, opens, said, want)
	if whole, ok := space.Find(e, opens, "d199"); whole != "d199" || !ok {
		t.Errorf("%q, %v", whole, ok)
	}
}

// An answer of up to MaxNodes nodes shares none of them within itself, wherever they come from.
func TestP19_2NodesAtTheLimit(t *testing.T) {
	e := ground(t)
	// 3000 nodes, many of which are shared, the last ones too.
	a := constant("a")
	two := app(a, a)
	row := constant("o")
	for range 749 {
		row = app(row, two)
	}
	row = let(sort(0), sort(0), row)
	got := told(t, "shared", e, nil, row, row)
	if size := term.Size(got); size != api.MaxNodes || len(known(got)) != size {
		t.Errorf("%d of %d nodes", len(known(got)), size)
	}
}

// As many parts nested in one another as are promised for, in each direction.
func TestP19_1Deep(t *testing.T) {
	e := ground(t)
	for what, nest := range map[string]func(x, last *api.Term) *api.Term{
		"to the left":  func(x, last *api.Term) *api.Term { return app(last, x) },
		"to the right": func(x, last *api.Term) *api.Term { return pi(x, last) },
		"within":       func(x, last *api.Term) *api.Term { return let(x, last, x) },
		"under":        func(x, last *api.Term) *api.Term { return let(x, x, last) },
	} {
		x, want, wrong := constant("a"), constant("x.a"), constant("zz")
		for range 1 << 16 {
			x, want, wrong = nest(constant("f"), x), nest(constant("x.f"), want), nest(constant("f"), wrong)
		}
		told(t, what, e, open("x"), x, want)
		lacks(t, what, e, open("x"), wrong)
	}
}

// shared is a term with so many nodes one above the other, each of which has the one below it more than once.
func shared(deep int, last *api.Term) *api.Term {
	t := last
	for i := range deep {
		if i%2 == 0 {
			t = let(t, t, t)
		} else {
			t = app(t, t)
		}
	}
	return t
}

// What is shared can't be unfolded, but what comes of it needn't be.
func TestP19_1Shared(t *testing.T) {
	e := ground(t)
	for _, deep := range []int{3, 10, 60, 5000} {
		what := fmt.Sprint(deep, " deep")
		got := told(t, what, e, open("x"), shared(deep, constant("a")), shared(deep, constant("x.a")))
		told(t, what+", without names", e, open("x"), shared(deep, nil), shared(deep, nil))
		lacks(t, what, e, open("x"), shared(deep, constant("zz")))
		lacks(t, what, e, open("x"), shared(deep, app(shared(deep, constant("a")), constant("zz"))))
		if n := len(known(got)); n > 3*api.MaxNodes+2*deep {
			t.Errorf("%s: %d nodes", what, n)
		}
	}
}

// A term that hangs on itself has no end; a call has.
func TestP19_1WithoutEnd(t *testing.T) {
	e := ground(t)
	// round is such a term, with a name in it.
	round := func(name string) *api.Term {
		x := app(nil, lam(constant(name), nil))
		x.A, x.B.B, x.B.C = x, x, x.B
		return x
	}
	x := round("a")
	got := told(t, "round", e, open("x"), x, round("x.a"))
	for node := range known(got) {
		if known(x)[node] {
			t.Fatal("a node that was handed in")
		}
	}
	lacks(t, "round", e, open("x"), round("zz"))
	name := constant("a")
	name.A, name.B = name, name
	want := constant("x.a")
	want.A, want.B = want, want
	told(t, "a name", e, open("x"), name, want)
}

// Far more may be open than a document opens, and names may be far too long.
func TestP19_1ManyOpen(t *testing.T) {
	const many = 1 << 18
	spaces, sections, nameless := make([]api.Open, many), make([]api.Open, many), make([]api.Open, many)
	for i := range many {
		spaces[i].Name, sections[i].Name, sections[i].Section = "s", "s", true
	}
	e := axioms(t, "a", "s.a", "s.s.s.s.s.s.s.s.s.s.s.b", "s.s.s.s.s.s.s.s.s.s.sss", long(24))
	e = of(t, append(e.List(), family("s.s.s.s.s.s.s.s.s.s.s.ff"))...)
	if got := space.Full(spaces, "a"); got != strings.Repeat("s.", many)+"a" {
		t.Errorf("full: %d bytes", len(got))
	}
	if got := space.Full(sections, "a"); got != "a" {
		t.Errorf("full of sections: %d bytes", len(got))
	}
	for name, want := range map[string]string{"a": "s.a", "b": "s.s.s.s.s.s.s.s.s.s.s.b", "sss": "s.s.s.s.s.s.s.s.s.s.sss", "ff.rec": "s.s.s.s.s.s.s.s.s.s.s.ff.rec", "s.a": "s.a", "s.b": "s.s.s.s.s.s.s.s.s.s.s.b", "s.sss": "s.s.s.s.s.s.s.s.s.s.sss", "s.s.ss": "", "t.a": "", long(24): long(24), long(25): "", long(1 << 20): ""} {
		finds(t, "namespaces", e, spaces, name, want)
	}
	for name, want := range map[string]string{"a": "a", "s.a": "s.a", "b": "", long(24): long(24), long(1 << 20): ""} {
		finds(t, "sections", e, sections, name, want)
		finds(t, "no names", e, nameless, name, want)
		finds(t, "a long one", e, []api.Open{{Name: long(1 << 24)}}, name, want)
		finds(t, "sections ahead", e, append(sections[:many:many], api.Open{Name: "t"}), name, want)
	}
	finds(t, "sections ahead", e, append(sections[:many:many], api.Open{Name: "s"}), "a", "s.a")
	// All of it is gone through once, not once for each constant.
	told(t, "namespaces", e, spaces, chain(2999, the("a")), chain(2999, the("s.a")))
	told(t, "sections", e, sections, chain(2999, the("a")), chain(2999, the("a")))
}
