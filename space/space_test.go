package space_test

import (
	"errors"
	"fmt"
	"strconv"
	"strings"
	"testing"

	"vademecum/api"
	"vademecum/env"
	"vademecum/space"
	"vademecum/term"
)

func sort(n int) *api.Term { return &api.Term{Kind: api.TSort, N: n} }

func variable(n int) *api.Term { return &api.Term{Kind: api.TVar, N: n} }

func constant(name string) *api.Term { return &api.Term{Kind: api.TConst, Name: name} }

func pi(a, b *api.Term) *api.Term { return &api.Term{Kind: api.TPi, A: a, B: b} }

func lam(a, b *api.Term) *api.Term { return &api.Term{Kind: api.TLam, A: a, B: b} }

func app(a, b *api.Term) *api.Term { return &api.Term{Kind: api.TApp, A: a, B: b} }

func let(a, b, c *api.Term) *api.Term { return &api.Term{Kind: api.TLet, A: a, B: b, C: c} }

// eliminator is a recursor's constant.
func eliminator(name string, sort int) *api.Term {
	return &api.Term{Kind: api.TConst, Name: name, N: sort}
}

// long is a name of so many bytes.
func long(n int) string { return strings.Repeat("a", n) }

// chain is a term of so many nodes, an odd number, nested to the left, with one term again and again.
func chain(nodes int, x func() *api.Term) *api.Term {
	t := x()
	for range nodes / 2 {
		t = app(t, x())
	}
	return t
}

// open is what is open: sections are marked by a sign ahead.
func open(names ...string) []api.Open {
	var l []api.Open
	for i, name := range names {
		o := api.Open{Name: name, From: i}
		if section, ok := strings.CutPrefix(name, "!"); ok {
			o = api.Open{Section: true, Name: section, From: i, Vars: []api.Decl{axiom("v")}}
		}
		l = append(l, o)
	}
	return l
}

func axiom(name string) api.Decl {
	return api.Decl{Kind: api.DAxiom, Name: name, Type: sort(0)}
}

func family(name string, cons ...string) api.Decl {
	d := api.Decl{Kind: api.DFamily, Name: name, Type: sort(0)}
	for _, c := range cons {
		d.Family.Cons = append(d.Family.Cons, api.Con{Name: c, Type: constant(name)})
	}
	return d
}

// of is an Env of some declarations.
func of(t *testing.T, l ...api.Decl) *env.Env {
	t.Helper()
	e := env.New()
	for _, d := range l {
		next, err := e.Add(d)
		if err != nil {
			t.Fatalf("add %q: %v", d.Name, err)
		}
		e = next
	}
	return e
}

// axioms is an Env of axioms.
func axioms(t *testing.T, names ...string) *env.Env {
	t.Helper()
	var l []api.Decl
	for _, name := range names {
		l = append(l, axiom(name))
	}
	return of(t, l...)
}

// tell is a term as a text: two texts are the same just where the terms are.
func tell(t *api.Term) string {
	if t == nil {
		return "-"
	}
	return "(" + strconv.Itoa(t.Kind) + " " + strconv.Itoa(t.N) + " " + strconv.Quote(t.Name) + tell(t.A) + tell(t.B) + tell(t.C) + ")"
}

// finds holds what is found of a name: "" is nothing.
func finds(t *testing.T, what string, e *env.Env, l []api.Open, name, want string) {
	t.Helper()
	whole, ok := want, want != ""
	if !ok {
		whole = name
	}
	if got, is := space.Find(e, l, name); got != whole || is != ok {
		t.Errorf("%s: find %.60q: %.60q, %v; want %.60q, %v", what, name, got, is, whole, ok)
	}
	// A constant is found by its name alone, and else nothing comes of it.
	x := constant(name)
	if !ok {
		refused(t, what, e, l, x, name)
		return
	}
	becomes(t, what, e, l, x, constant(want))
}

// becomes holds what a term is made.
func becomes(t *testing.T, what string, e *env.Env, l []api.Open, x, want *api.Term) {
	t.Helper()
	before := tell(x)
	got, err := space.Term(e, l, x)
	if err != nil || tell(got) != tell(want) {
		t.Errorf("%s: term %.200s: %.200s, %v; want %.200s", what, tell(x), tell(got), err, tell(want))
	}
	if tell(x) != before {
		t.Errorf("%s: term %.200s: changed", what, before)
	}
}

// refused tells whether nothing comes of a term, as a name isn't there.
func refused(t *testing.T, what string, e *env.Env, l []api.Open, x *api.Term, name string) {
	t.Helper()
	before := tell(x)
	got, err := space.Term(e, l, x)
	var number api.Errno
	if got != nil || !errors.Is(err, api.ErrName) || !errors.As(err, &number) || number != api.ErrName {
		t.Errorf("%s: term %.200s: %.200s, %v", what, before, tell(got), err)
	} else if s := err.Error(); !strings.HasPrefix(s, "space: ") || !strings.Contains(s, strconv.Quote(name)) || !strings.HasSuffix(s, api.ErrName.Error()) {
		t.Errorf("%s: told as %.200q, want of %.60q", what, s, name)
	}
	if tell(x) != before {
		t.Errorf("%s: term %.200s: changed", what, before)
	}
}

func TestP19_1Full(t *testing.T) {
	for i, c := range []struct {
		l          []api.Open
		name, want string
	}{
		{nil, "a", "a"}, {[]api.Open{}, "a", "a"}, {nil, "", ""}, {nil, "a.b.rec", "a.b.rec"},
		{open("s"), "a", "s.a"}, {open("s", "t"), "a", "s.t.a"}, {open("t", "s"), "a", "t.s.a"}, {open("s", "s", "s"), "s", "s.s.s.s"},
		{open("s.t", "u"), "a.b", "s.t.u.a.b"}, {open("s", "t.u"), "a", "s.t.u.a"}, {open("s"), "s.a", "s.s.a"},
		{open("!s"), "a", "a"}, {open("!s", "!t"), "a", "a"}, {open("!s", "t"), "a", "t.a"}, {open("s", "!t"), "a", "s.a"}, {open("s", "!t", "u", "!v", "!w", "x"), "a", "s.u.x.a"},
		{open("nat"), "rec", "nat.rec"}, {open("s"), "nat.rec", "s.nat.rec"},
		// Nothing is asked of the names.
		{open("s"), "", "s."}, {open(""), "a", ".a"}, {open("", ""), "", ".."}, {open("!", "s"), "a", "s.a"}, {open("1", "é", "\xff"), "\x00", "1.é.\xff.\x00"}, {open("a.", ".b"), ".", "a...b.."},
		{open("a", "b", "c", "d", "e", "f", "g", "h"), "i", "a.b.c.d.e.f.g.h.i"}, {open(long(24), long(24)), long(24), long(24) + "." + long(24) + "." + long(24)},
	} {
		if got := space.Full(c.l, c.name); got != c.want {
			t.Errorf("row %d: %q, want %q", i, got, c.want)
		}
	}
}

// Of all names that a name may stand for each is taken where those with more namespaces aren't there.
func TestP19_1InnermostFirst(t *testing.T) {
	l := open("s", "!x", "t.u", "v", "!y")
	wholes := []string{"s.t.u.v.a", "s.t.u.a", "s.a", "a"}
	// Some that are alike, but none of these.
	others := []string{"b", "s", "s.t", "s.t.u", "t.u.a", "u.a", "v.a", "t.u.v.a", "s.v.a", "s.t.a", "s.x.t.u.v.a", "s.t.u.v.y.a", "x.a", "y.a", "s.t.u.v", "A", "s.A", "aa", "s.aa", "s.a.a", "s.a.b"}
	for from, want := range append(wholes, "") {
		finds(t, fmt.Sprint("from ", from), axioms(t, append(wholes[from:], others...)...), l, "a", want)
		if from < len(wholes) {
			finds(t, fmt.Sprint("just ", from), axioms(t, wholes[from]), l, "a", want)
		}
	}
	finds(t, "none", env.New(), l, "a", "")
	finds(t, "new", new(env.Env), l, "a", "")
	e := axioms(t, wholes...)
	for i, want := range []string{"a", "s.a", "s.a", "s.t.u.a", "s.t.u.v.a", "s.t.u.v.a"} {
		finds(t, fmt.Sprint("open ", i), e, l[:i], "a", want)
	}
}

func TestP19_1Find(t *testing.T) {
	e := axioms(t, "a", "s.a", "s.t.a", "s.t", "t.c", "s.b", "s.s.d", "rec", "t.rec.a", "fun", "Type0", "x.y.z", "recs.rec1", long(24))
	for i, c := range []struct {
		l          []api.Open
		name, want string
	}{
		{nil, "a", "a"}, {nil, "b", ""}, {nil, "s.b", "s.b"}, {nil, "t", ""}, {nil, "s.t", "s.t"}, {nil, "x.y", ""}, {nil, "x", ""}, {nil, "", ""}, {nil, ".", ""}, {nil, "a.", ""}, {nil, ".a", ""},
		{open("s"), "t", "s.t"}, {open("s"), "t.a", "s.t.a"}, {open("s"), "s.a", "s.a"}, {open("s"), "s.d", "s.s.d"}, {open("s", "s"), "d", "s.s.d"}, {open("s"), "d", ""}, {open("s"), "t.c", "t.c"},
		{open("s", "t"), "c", ""}, {open("t", "s"), "c", "t.c"}, {open("t", "s"), "a", "a"}, {open("t"), "a", "a"}, {open("u", "v"), "a", "a"}, {open("u"), "s.b", "s.b"}, {open("s.t"), "a", "s.t.a"},
		{open("s.t"), "b", ""}, {open("x.y"), "z", "x.y.z"}, {open("x", "y"), "z", "x.y.z"}, {open("x"), "y.z", "x.y.z"}, {open("x"), "z", ""}, {open("x.y"), "y.z", ""},
		{open("!s"), "b", ""}, {open("!s", "s"), "b", "s.b"}, {open("s", "!s"), "d", ""}, {open("s", "!t"), "a", "s.a"}, {open("!a"), "a", "a"},
		// Of names that say something else in a text nothing else is asked.
		{nil, "fun", "fun"}, {open("s"), "Type0", "Type0"}, {nil, "Type1", ""}, {nil, "rec", "rec"}, {open("s"), "rec", "rec"}, {open("t"), "rec.a", "t.rec.a"}, {nil, "recs.rec1", "recs.rec1"},
		// What isn't a name is never there.
		{open("s"), "", ""}, {open(""), "a", "a"}, {open("s", ""), "a", "s.a"}, {open("", "s"), "a", "a"}, {open("s."), "a", "a"}, {open("s"), ".a", ""}, {open("s"), "a ", ""}, {nil, "a\x00", ""}, {nil, "A", ""}, {nil, "a@0", ""},
		{nil, long(24), long(24)}, {nil, long(25), ""}, {open("s"), long(24), long(24)}, {nil, long(23), ""}, {nil, long(5000), ""}, {open(long(5000)), "a", "a"}, {open("s", long(5000)), "a", "s.a"},
	} {
		finds(t, fmt.Sprint("row ", i), e, c.l, c.name, c.want)
	}
}

// A declaration is had by its name alone, of whatever kind it is; a Rec just of a family.
func TestP19_1FindKinds(t *testing.T) {
	for _, kind := range []int{api.DAxiom, api.DDef, api.DFamily, api.DCon, 0, -1, 5, 44} {
		d := family("s.f", "c", "s.d")
		d.Kind, d.Of, d.Value = kind, "f", sort(1)
		e := of(t, d, axiom("s.a"))
		what := fmt.Sprint("kind ", kind)
		rec := ""
		if kind == api.DFamily {
			rec = "s.f.rec"
		}
		for _, l := range [][]api.Open{nil, open("s"), open("s", "t"), open("!t", "s", "!t")} {
			finds(t, what, e, l, "s.f", "s.f")
			finds(t, what, e, l, "s.f.rec", rec)
			// Constructors are declarations of their own.
			for _, name := range []string{"c", "d", "s.c", "s.d", "s.f.c", "s.c.rec", "s.f.rec.rec", "s.f.rec.a", "s.f.recs", "s.f.Rec", "s.a.rec", "s.rec", ".rec", "rec", "s.f..rec", "s.f.rec "} {
				finds(t, what, e, l, name, "")
			}
		}
		finds(t, what, e, nil, "f", "")
		finds(t, what, e, nil, "f.rec", "")
		finds(t, what, e, open("s"), "f", "s.f")
		finds(t, what, e, open("s"), "f.rec", rec)
		finds(t, what, e, open("s", "u"), "f.rec", rec)
		finds(t, what, e, open("!s"), "f.rec", "")
	}
}

// What isn't a family is passed over by a Rec, and not by the name that it has.
func TestP19_1FindRec(t *testing.T) {
	e := of(t, family("f"), family("s.f"), axiom("s.t.f"), axiom("nat.f"), family("nat"), axiom("s.nat"), family("s.t.nat.x"), family("rec"), family("s.rec.rec1"), axiom("w"), family("w.w"))
	for i, c := range []struct {
		l          []api.Open
		name, want string
	}{
		{nil, "f.rec", "f.rec"}, {open("s"), "f.rec", "s.f.rec"}, {open("s", "t"), "f.rec", "s.f.rec"}, {open("s", "t"), "f", "s.t.f"}, {open("nat"), "f.rec", "f.rec"}, {open("nat"), "f", "nat.f"},
		{open("s"), "nat.rec", "nat.rec"}, {open("s"), "nat", "s.nat"}, {open("s", "t"), "nat.rec", "nat.rec"}, {open("s", "t"), "nat.x.rec", "s.t.nat.x.rec"}, {open("s", "t", "nat"), "x.rec", "s.t.nat.x.rec"},
		{nil, "rec.rec", "rec.rec"}, {open("rec"), "rec", "rec.rec"}, {open("s"), "rec.rec", "rec.rec"}, {nil, "w.rec", ""}, {nil, "w.w.rec", "w.w.rec"}, {open("w"), "w.rec", "w.w.rec"}, {open("w"), "w.w.rec", "w.w.rec"},
		// What is asked for is the Full name: with a namespace ahead that is a Rec, where the name isn't.
		{nil, "rec", "rec"}, {open("nat"), "rec", "nat.rec"}, {open("s", "f"), "rec", "s.f.rec"}, {open("s", "nat"), "rec", "rec"}, {open("s.t.nat", "x"), "rec", "s.t.nat.x.rec"}, {open("nat", "!s"), "rec", "nat.rec"}, {open("!nat"), "rec", "rec"}, {open("w"), "rec", "rec"},
		{open("nat"), "rec.rec", "rec.rec"}, {open("nat", "rec"), "rec", "nat.rec"}, {open("s", "rec"), "rec", "rec"}, {open("nat.rec"), "rec", "rec"},
		{nil, ".rec", ""}, {open(""), "rec", "rec"}, {open("f"), ".rec", ""}, {open("f", ""), "rec", "f.rec"}, {open("f."), "rec", "rec"}, {nil, "f.rec@1", ""}, {nil, "f.rec.", ""}, {nil, "f..rec", ""}, {nil, "1.rec", ""},
	} {
		finds(t, fmt.Sprint("row ", i), e, c.l, c.name, c.want)
	}
	// Here the namespace's name is a Rec's family, and a family has its name with more behind it.
	finds(t, "a family in a namespace", of(t, family("nat.nat")), open("nat"), "nat.rec", "nat.nat.rec")
	finds(t, "a namespace alone", of(t, axiom("nat.a")), open("nat"), "rec", "")
}

// Names as long as they may be, with all that is ahead of them; a Rec's is longer.
func TestP19_1FindLong(t *testing.T) {
	e := of(t, family("s."+long(22)), family(long(24)), axiom("s.t."+long(20)), axiom("b."+long(12)+"."+long(9)), axiom("a.b.c.d.e.f.g.h.i.j.k.lm"))
	for i, c := range []struct {
		l          []api.Open
		name, want string
	}{
		{open("s"), long(22), "s." + long(22)}, {open("s"), long(22) + ".rec", "s." + long(22) + ".rec"}, {open("s"), long(23), ""}, {open("s"), long(21), ""}, {open("s"), long(23) + ".rec", ""},
		{open("s", "t"), long(22) + ".rec", "s." + long(22) + ".rec"}, {nil, "s." + long(22) + ".rec", "s." + long(22) + ".rec"}, {open("s." + long(22)), "rec", "s." + long(22) + ".rec"}, {open("s", long(22)), "rec", "s." + long(22) + ".rec"},
		{nil, long(24) + ".rec", long(24) + ".rec"}, {open(long(24)), "rec", long(24) + ".rec"}, {open("s"), long(24) + ".rec", long(24) + ".rec"}, {open(long(24)), long(24), long(24)}, {open(long(25)), "rec", ""}, {nil, long(25) + ".rec", ""},
		{open("s", "t"), long(20), "s.t." + long(20)}, {open("s.t"), long(20), "s.t." + long(20)}, {open("s"), "t." + long(20), "s.t." + long(20)}, {open("s", "t"), long(20) + ".rec", ""},
		{open("b", long(12)), long(9), "b." + long(12) + "." + long(9)}, {open("b." + long(12)), long(9), "b." + long(12) + "." + long(9)},
		{open("a", "b", "c", "d", "e", "f", "g", "h", "i", "j", "k"), "lm", "a.b.c.d.e.f.g.h.i.j.k.lm"}, {open("a", "b", "c", "d", "e", "f", "g", "h", "i", "j", "k", "lm", "n"), long(24), long(24)},
	} {
		finds(t, fmt.Sprint("row ", i), e, c.l, c.name, c.want)
	}
}

// ground is an Env of what the terms below say.
func ground(t *testing.T) *env.Env {
	t.Helper()
	return of(t, family("nat", "o", "s"), axiom("o"), axiom("s"), axiom("a"), axiom("x.a"), family("x.f", "x.c"), axiom("x.c"), axiom("x.y.b"), axiom("x.y.nat"))
}

// Each constant gets its name, wherever it is; all else stays.
func TestP19_1Term(t *testing.T) {
	e, l := ground(t), open("x", "!a", "y")
	a, xa := constant("a"), constant("x.a")
	for i, c := range []struct{ x, want *api.Term }{
		{sort(0), sort(0)}, {sort(9), sort(9)}, {variable(0), variable(0)}, {variable(100000), variable(100000)},
		{a, xa}, {constant("s"), constant("s")}, {constant("x.a"), xa}, {constant("nat"), constant("x.y.nat")}, {constant("y.b"), constant("x.y.b")},
		{pi(a, a), pi(xa, xa)}, {lam(a, a), lam(xa, xa)}, {app(a, a), app(xa, xa)}, {let(a, a, a), let(xa, xa, xa)},
		{pi(a, sort(1)), pi(xa, sort(1))}, {pi(sort(1), a), pi(sort(1), xa)}, {lam(variable(1), a), lam(variable(1), xa)}, {app(a, variable(2)), app(xa, variable(2))},
		{let(a, sort(0), sort(1)), let(xa, sort(0), sort(1))}, {let(sort(0), a, sort(1)), let(sort(0), xa, sort(1))}, {let(sort(0), sort(1), a), let(sort(0), sort(1), xa)},
		{lam(constant("f"), pi(variable(0), app(constant("b"), constant("c")))), lam(constant("x.f"), pi(variable(0), app(constant("x.y.b"), constant("x.c"))))},
		{app(app(constant("nat"), constant("o")), app(constant("s"), a)), app(app(constant("x.y.nat"), constant("o")), app(constant("s"), xa))},
		// N stays: the sort into which a recursor eliminates.
		{eliminator("f.rec", 0), eliminator("x.f.rec", 0)}, {eliminator("f.rec", 9), eliminator("x.f.rec", 9)}, {app(eliminator("nat.rec", 3), eliminator("x.f.rec", 4)), app(eliminator("nat.rec", 3), eliminator("x.f.rec", 4))},
		{app(eliminator("f.rec", 1), eliminator("f.rec", 2)), app(eliminator("x.f.rec", 1), eliminator("x.f.rec", 2))},
	} {
		becomes(t, fmt.Sprint("row ", i), e, l, c.x, c.want)
		if !term.Is(c.x) || !term.Is(c.want) {
			t.Errorf("row %d: no terms", i)
		}
	}
	for _, x := range []*api.Term{a, pi(a, let(a, a, constant("nat"))), eliminator("nat.rec", 2), constant("x.a"), lam(sort(0), variable(0))} {
		becomes(t, "nothing is open", e, nil, x, x)
		becomes(t, "sections are open", e, open("!x", "!y"), x, x)
		becomes(t, "others are open", e, open("u", "v"), x, x)
	}
}

// places are terms with a part in each place where there may be one.
func places(x func() *api.Term) []*api.Term {
	return []*api.Term{
		x(), pi(x(), sort(0)), pi(sort(0), x()), lam(x(), sort(0)), lam(sort(0), x()), app(x(), sort(0)), app(sort(0), x()),
		let(x(), sort(0), sort(0)), let(sort(0), x(), sort(0)), let(sort(0), sort(0), x()), app(constant("a"), app(constant("a"), lam(constant("a"), x()))), app(app(app(x(), constant("a")), constant("a")), constant("a")),
	}
}

// One constant that isn't there is enough.
func TestP19_1TermRefused(t *testing.T) {
	for _, name := range []string{"b", "zz", "nat.rec.a", "a.rec", "x.nat", "x.f.rec.rec", "rec", "f", "c", "y.b", "f.rec", "", ".", "a.", "a b", "fun", long(25), "x.y.b.rec", "o.rec"} {
		for i, x := range places(func() *api.Term { return constant(name) }) {
			refused(t, fmt.Sprint("place ", i), ground(t), nil, x, name)
		}
	}
	for i, x := range places(func() *api.Term { return eliminator("nat.rec", 4) }) {
		becomes(t, fmt.Sprint("place ", i), ground(t), nil, x, x)
	}
	for i, x := range places(func() *api.Term { return constant("b") }) {
		refused(t, fmt.Sprint("place ", i), ground(t), open("x"), x, "b")
	}
}

// Of several that aren't there the error is told of the first one from the left.
func TestP19_1TermFirstError(t *testing.T) {
	e := ground(t)
	p, q, r, a := constant("p"), constant("q"), constant("r"), constant("a")
	for i, c := range []struct {
		x    *api.Term
		name string
	}{
		{app(p, q), "p"}, {app(q, p), "q"}, {pi(q, p), "q"}, {lam(q, p), "q"}, {let(r, q, p), "r"}, {let(a, q, p), "q"}, {let(q, a, p), "q"}, {let(sort(0), a, p), "p"},
		{app(app(a, r), p), "r"}, {app(app(app(q, r), p), q), "q"}, {app(a, app(r, p)), "r"}, {let(lam(a, pi(a, r)), q, p), "r"}, {pi(lam(a, app(a, q)), r), "q"}, {app(a, let(a, app(a, a), app(app(a, q), r))), "q"},
	} {
		refused(t, fmt.Sprint("row ", i), e, nil, c.x, c.name)
		refused(t, fmt.Sprint("row ", i), e, open("x", "y"), c.x, c.name)
	}
}

// What is no term is gone through likewise: each constant in it gets its name, all else stays.
func TestP19_1NoTerm(t *testing.T) {
	e, l := ground(t), open("x")
	a, xa := constant("a"), constant("x.a")
	for i, c := range []struct{ x, want *api.Term }{
		{nil, nil}, {&api.Term{}, &api.Term{}}, {&api.Term{Kind: 8}, &api.Term{Kind: 8}}, {sort(10), sort(10)}, {sort(-1), sort(-1)}, {variable(-1), variable(-1)},
		{&api.Term{Kind: api.TSort, Name: "a"}, &api.Term{Kind: api.TSort, Name: "a"}}, {&api.Term{Kind: api.TVar, Name: "zz", N: 5}, &api.Term{Kind: api.TVar, Name: "zz", N: 5}}, {&api.Term{Kind: api.TPi, Name: "a", N: 1, A: a, B: a}, &api.Term{Kind: api.TPi, Name: "a", N: 1, A: xa, B: xa}},
		{&api.Term{Kind: 0, Name: "zz"}, &api.Term{Kind: 0, Name: "zz"}}, {&api.Term{Kind: -3, Name: "a", A: a, C: a}, &api.Term{Kind: -3, Name: "a", A: xa, C: xa}},
		{eliminator("a", 3), eliminator("x.a", 3)}, {eliminator("f.rec", 10), eliminator("x.f.rec", 10)}, {eliminator("f.rec", -1), eliminator("x.f.rec", -1)},
		{pi(nil, a), pi(nil, xa)}, {pi(a, nil), pi(xa, nil)}, {app(nil, nil), app(nil, nil)}, {let(nil, nil, a), let(nil, nil, xa)}, {let(a, nil, nil), let(xa, nil, nil)}, {let(nil, a, nil), let(nil, xa, nil)},
		{&api.Term{Kind: api.TApp, A: a, B: a, C: a}, app3(xa)}, {&api.Term{Kind: api.TSort, A: a}, &api.Term{Kind: api.TSort, A: xa}}, {&api.Term{Kind: api.TVar, B: a}, &api.Term{Kind: api.TVar, B: xa}},
		{&api.Term{Kind: api.TConst, Name: "a", A: a, B: sort(0), C: constant("s")}, &api.Term{Kind: api.TConst, Name: "x.a", A: xa, B: sort(0), C: constant("s")}},
	} {
		becomes(t, fmt.Sprint("row ", i), e, l, c.x, c.want)
		if term.Is(c.x) {
			t.Errorf("row %d: a term", i)
		}
	}
	for i, x := range []*api.Term{
		{Kind: api.TSort, C: constant("zz")}, {Kind: api.TConst, Name: "a", B: constant("zz")}, {Kind: api.TConst, Name: "zz", A: a}, pi(nil, constant("zz")), let(nil, nil, app(nil, constant("zz"))), {Kind: 77, A: constant("zz")}, eliminator("zz", 20),
	} {
		refused(t, fmt.Sprint("refused ", i), e, l, x, "zz")
	}
}

// app3 is no term: an application with one part more.
func app3(x *api.Term) *api.Term { return &api.Term{Kind: api.TApp, A: x, B: x, C: x} }

// Constants that are keywords aren't terms, but they may be declared; a recursor's whole name may be no constant's.
func TestP19_1TermOfOddNames(t *testing.T) {
	e := of(t, axiom("fun"), axiom("s.Type0"), family("s."+long(22)))
	becomes(t, "keyword", e, open("s"), app(constant("fun"), constant("Type0")), app(constant("fun"), constant("s.Type0")))
	becomes(t, "long", e, open("s"), eliminator(long(22)+".rec", 2), eliminator("s."+long(22)+".rec", 2))
}
