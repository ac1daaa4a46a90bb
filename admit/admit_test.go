package admit_test

import (
	"errors"
	"math"
	"strconv"
	"strings"
	"testing"

	"vademecum/admit"
	"vademecum/api"
	"vademecum/env"
	"vademecum/lex"
	"vademecum/syntax"
)

func sort(n int) *api.Term { return &api.Term{Kind: api.TSort, N: n} }

func variable(n int) *api.Term { return &api.Term{Kind: api.TVar, N: n} }

func constant(name string) *api.Term { return &api.Term{Kind: api.TConst, Name: name} }

func rec(name string, n int) *api.Term { return &api.Term{Kind: api.TConst, Name: name, N: n} }

func pi(a, b *api.Term) *api.Term { return &api.Term{Kind: api.TPi, A: a, B: b} }

func lam(a, b *api.Term) *api.Term { return &api.Term{Kind: api.TLam, A: a, B: b} }

func app(a, b *api.Term) *api.Term { return &api.Term{Kind: api.TApp, A: a, B: b} }

func let(a, b, c *api.Term) *api.Term { return &api.Term{Kind: api.TLet, A: a, B: b, C: c} }

// apply is a term applied to others.
func apply(f *api.Term, l ...*api.Term) *api.Term {
	for _, t := range l {
		f = app(f, t)
	}
	return f
}

// dump is all that a term has, as a text, as far as it goes on no further than a term may: two texts are the same just where the terms are.
func dump(t *api.Term) string {
	var text strings.Builder
	var add func(t *api.Term)
	nodes := 0
	add = func(t *api.Term) {
		if t == nil || nodes > api.MaxNodes {
			text.WriteString("-")
			return
		}
		nodes++
		text.WriteString("(" + strconv.Itoa(t.Kind) + " " + strconv.Itoa(t.N) + " " + strconv.Quote(t.Name))
		add(t.A)
		add(t.B)
		add(t.C)
		text.WriteString(")")
	}
	add(t)
	return text.String()
}

// dumpDecls is all that declarations have.
func dumpDecls(l []api.Decl) string {
	var text strings.Builder
	for _, d := range l {
		text.WriteString(strconv.Itoa(d.Kind) + " " + strconv.Quote(d.Name) + " of " + strconv.Quote(d.Of) + ": " + dump(d.Type) + ", " + dump(d.Value))
		text.WriteString(" " + strconv.Itoa(d.Family.Params) + " " + strconv.Itoa(d.Family.Indices) + " " + strconv.Itoa(d.Family.Sort))
		for _, c := range d.Family.Cons {
			text.WriteString(" " + strconv.Quote(c.Name) + dump(c.Type))
		}
		text.WriteString("\n")
	}
	return text.String()
}

// of is the term of a text.
func of(t *testing.T, text string) *api.Term {
	t.Helper()
	words, err := lex.Words(text)
	if err != nil {
		t.Fatalf("%q: %v", text, err)
	}
	x, rest, err := syntax.Parse(words, nil)
	if err != nil || len(rest) > 0 {
		t.Fatalf("%q: %v, %q", text, err, rest)
	}
	return x
}

// call: what is to be let in: an axiom, a definition or a family.
type call struct {
	kind   int
	name   string
	params int
	a, b   *api.Term
	cons   []api.Con
}

// on asks for it.
func (c call) on(e *env.Env, fuel int) (*env.Env, error) {
	switch c.kind {
	case api.DAxiom:
		return admit.Axiom(e, c.name, c.a, fuel)
	case api.DDef:
		return admit.Def(e, c.name, c.a, c.b, fuel)
	}
	return admit.Family(e, c.name, c.params, c.a, c.cons, fuel)
}

// String tells it.
func (c call) String() string {
	text := strconv.Itoa(c.kind) + " " + c.name + " " + strconv.Itoa(c.params) + " : " + said(c.a) + " := " + said(c.b)
	for _, con := range c.cons {
		text += " | " + con.Name + " : " + said(con.Type)
	}
	return text[:min(len(text), 900)]
}

// said is a term as a text.
func said(x *api.Term) string {
	if text := syntax.Print(x); text != "" {
		return text
	}
	text := dump(x)
	return text[:min(len(text), 300)]
}

// products are how many products stand in front of a term, and what is behind them.
func products(x *api.Term) (int, *api.Term) {
	n := 0
	for ; x.Kind == api.TPi; x = x.B {
		n++
	}
	return n, x
}

// decls are the declarations that it should make.
func (c call) decls() []api.Decl {
	if c.kind != api.DFamily {
		return []api.Decl{{Kind: c.kind, Name: c.name, Type: c.a, Value: c.b}}
	}
	n, end := products(c.a)
	f := api.Family{Params: c.params, Indices: n - c.params, Sort: end.N, Cons: c.cons}
	l := []api.Decl{{Kind: api.DFamily, Name: c.name, Type: c.a, Family: f}}
	for _, con := range c.cons {
		l = append(l, api.Decl{Kind: api.DCon, Name: con.Name, Type: con.Type, Of: c.name})
	}
	return l
}

// axiom is one of a name and a type, as texts.
func axiom(t *testing.T, name, a string) call {
	t.Helper()
	return call{kind: api.DAxiom, name: name, a: of(t, a)}
}

// def is one of a name, a type and a value, as texts.
func def(t *testing.T, name, a, b string) call {
	t.Helper()
	return call{kind: api.DDef, name: name, a: of(t, a), b: of(t, b)}
}

// family is one of a name, so many parameters, a type, and constructors as name, type, name, type ..
func family(t *testing.T, name string, params int, a string, cons ...string) call {
	t.Helper()
	c := call{kind: api.DFamily, name: name, params: params, a: of(t, a)}
	for i := 0; i < len(cons); i += 2 {
		c.cons = append(c.cons, api.Con{Name: cons[i], Type: of(t, cons[i+1])})
	}
	return c
}

// added is an Env with declarations more, whatever they are.
func added(t *testing.T, e *env.Env, l ...api.Decl) *env.Env {
	t.Helper()
	for _, d := range l {
		more, err := e.Add(d)
		if err != nil {
			t.Fatalf("%s: %v", d.Name, err)
		}
		e = more
	}
	return e
}

// filled is an Env with axioms more, up to so many declarations.
func filled(t *testing.T, e *env.Env, n int) *env.Env {
	t.Helper()
	for i := e.Len(); i < n; i++ {
		e = added(t, e, api.Decl{Kind: api.DAxiom, Name: "fill" + strconv.Itoa(i), Type: sort(0)})
	}
	return e
}

// document is what the tests' Env has, in order.
func document(t *testing.T) []call {
	t.Helper()
	return []call{
		family(t, "nat", 0, "Type0", "o", "nat", "s", "nat -> nat"),
		family(t, "void", 0, "Type0"),
		axiom(t, "y", "nat"),
		axiom(t, "p", "nat -> Type0"),
		axiom(t, "d", "pi x : nat, p x"),
		axiom(t, "large", "Type8 -> nat"),
		axiom(t, "id", "pi A : Type1, A -> A"),
		def(t, "n", "Type0", "nat"),
		def(t, "one", "nat", "s o"),
		def(t, "two", "n", "s one"),
		def(t, "arrow", "Type0", "nat -> nat"),
		def(t, "inc", "arrow", "s"),
		def(t, "kind", "Type1", "Type0"),
		def(t, "plus", "nat -> nat -> nat", "fun a : nat => fun b : nat => nat.rec@0 (fun x : nat => nat) b (fun x : nat => fun y : nat => s y) a"),
		family(t, "list", 1, "Type0 -> Type0", "nil", "pi A : Type0, list A", "cons", "pi A : Type0, A -> list A -> list A"),
		family(t, "vec", 1, "Type0 -> nat -> Type0", "vnil", "pi A : Type0, vec A o", "vcons", "pi A : Type0, pi n : nat, A -> vec A n -> vec A (s n)"),
		family(t, "eq", 2, "pi A : Type0, A -> A -> Type0", "refl", "pi A : Type0, pi x : A, eq A x x"),
	}
}

// known is the Env of the tests.
func known(t *testing.T) *env.Env {
	t.Helper()
	e := env.New()
	for _, c := range document(t) {
		e = added(t, e, c.decls()...)
	}
	return e
}

// allowed asks for what is to be let in, and holds the Env against what it should have then.
func allowed(t *testing.T, what string, e *env.Env, c call, fuel int) *env.Env {
	t.Helper()
	before := dumpDecls(e.List())
	next, err := c.on(e, fuel)
	if err != nil || next == nil {
		t.Errorf("%s: %v by %d: %v", what, c, fuel, err)
		return e
	}
	if got, want := dumpDecls(next.List()), before+dumpDecls(c.decls()); got != want || next.Len() != e.Len()+len(c.decls()) {
		t.Errorf("%s: %v by %d: %.2000s, want %.2000s", what, c, fuel, strings.TrimPrefix(got, before), strings.TrimPrefix(want, before))
	}
	for _, d := range c.decls() {
		if got, ok := next.Find(d.Name); !ok || !env.Same(got, d) {
			t.Errorf("%s: %v: %s isn't found", what, c, d.Name)
		}
	}
	if dumpDecls(e.List()) != before {
		t.Errorf("%s: %v: the Env is changed", what, c)
	}
	return next
}

// refused asks for what isn't to be let in, and holds the error against the number that it should tell; what else is told, it answers as none.
func refused(t *testing.T, what string, e *env.Env, c call, fuel int, want api.Errno) error {
	t.Helper()
	before := dumpDecls(e.List())
	next, err := c.on(e, fuel)
	var told api.Errno
	switch {
	case next != nil || !errors.Is(err, want) || !errors.As(err, &told) || told != want:
		t.Errorf("%s: %v by %d: %v, %v; want %v", what, c, fuel, next != nil, err, want)
		return nil
	case !strings.HasPrefix(err.Error(), "admit: ") || !strings.HasSuffix(err.Error(), want.Error()) || strings.Count(err.Error(), "admit: ") != 1:
		t.Errorf("%s: %v: told as %q", what, c, err)
	}
	if dumpDecls(e.List()) != before {
		t.Errorf("%s: %v: the Env is changed", what, c)
	}
	return err
}

// takes asks for what is to be let in by each fuel up to what it takes, and by more.
func takes(t *testing.T, what string, e *env.Env, c call, took int) {
	t.Helper()
	for fuel := range took {
		if refused(t, what, e, c, fuel, api.ErrFuel) == nil {
			return
		}
	}
	for _, fuel := range []int{took, took + 1, took + 9, api.MaxFuel, api.MaxFuel + 1, math.MaxInt} {
		allowed(t, what, e, c, fuel)
	}
	for _, fuel := range []int{-1, -took, -api.MaxFuel, math.MinInt} {
		refused(t, what, e, c, fuel, api.ErrFuel)
	}
}

// fails asks for what isn't to be let in by each fuel up to what it takes to tell that, and by more.
func fails(t *testing.T, what string, e *env.Env, c call, want api.Errno, took int) {
	t.Helper()
	for fuel := range took {
		if refused(t, what, e, c, fuel, api.ErrFuel) == nil {
			return
		}
	}
	for _, fuel := range []int{took, took + 1, took + 9, api.MaxFuel, api.MaxFuel + 1, math.MaxInt} {
		refused(t, what, e, c, fuel, want)
	}
}

// The tests' Env is made by its own calls, too.
func TestP18_3Document(t *testing.T) {
	e := env.New()
	for _, c := range document(t) {
		e = allowed(t, "document", e, c, 300)
	}
	if got, want := dumpDecls(e.List()), dumpDecls(known(t).List()); got != want {
		t.Errorf("%.2000s; want %.2000s", got, want)
	}
}

func TestP18_1Axioms(t *testing.T) {
	e := known(t)
	for _, c := range []struct {
		name, a string
		took    int
	}{
		{"x", "nat", 1},
		{"x", "Type0", 1},
		{"x", "Type8", 1},
		{"x", "n", 1},
		{"x.y", "kind", 1},
		{"x", "nat -> nat", 3},
		{"x", "pi A : Type8, A", 3},
		{"x", "p o", 4},
		{"x", "p two", 5},
		{"x", "pi x : nat, p x", 6},
		{"x", "pi A : Type0, list A", 6},
		{"x", "void -> void", 3},
		{"x", "(fun A : Type1 => A) nat", 6},
		{"x", "let A : Type2 := Type0 in A", 5},
		{"x", "id Type0 nat", 7},
		{"nats", "nat", 1},
		{"fun", "nat", 1},
		{"Type0", "nat", 1},
		{"rec", "nat", 1},
		{"nat.rec.x", "nat", 1},
		{"nat.o", "nat", 1},
	} {
		takes(t, "axiom", e, axiom(t, c.name, c.a), c.took)
	}
}

func TestP18_1Definitions(t *testing.T) {
	e := known(t)
	for _, c := range []struct {
		name, a, b string
		took       int
	}{
		{"x", "nat", "o", 1 + 1 + 1},
		{"x", "nat", "s o", 1 + 4 + 1},
		{"x", "nat", "inc o", 1 + 5 + 1},
		{"x", "nat -> nat", "s", 3 + 1 + 1},
		{"x", "nat -> nat", "fun x : nat => x", 3 + 3 + 1},
		{"x", "nat -> nat", "fun x : nat => s (s x)", 3 + 1 + 1 + 7 + 1},
		{"x.y", "Type3", "nat", 1 + 1 + 1},
		{"x", "Type3", "Type2", 1 + 1 + 1},
		{"x", "Type9", "Type8", 0},
		// Types that come to the same: n is nat by a step.
		{"x", "n", "o", 1 + 1 + 1 + 1},
		{"x", "nat", "two", 1 + 1 + 1 + 1},
		{"x", "p two", "d two", 5 + 5 + 1},
		{"x", "p (s one)", "d (s one)", 7 + 7 + 1},
		{"x", "kind", "nat", 1 + 1 + 1 + 1},
		// With up Type0 is of Type2 to Type2, as only what is behind may be less.
		{"x", "nat -> Type2", "fun x : nat => nat", 3 + 3 + 1 + 1 + 1},
	} {
		if c.took == 0 {
			fails(t, "definition", e, def(t, c.name, c.a, c.b), api.ErrSort, 1)
			continue
		}
		takes(t, "definition", e, def(t, c.name, c.a, c.b), c.took)
	}
}

// By computing: what is of the one type is of the other.
func TestP18_1Computed(t *testing.T) {
	e := known(t)
	for _, c := range []call{
		def(t, "x", "eq nat (plus two two) (s (s two))", "refl nat (plus two two)"),
		def(t, "x", "eq nat (plus two two) (s (s two))", "refl n (s (plus one two))"),
		def(t, "x", "vec nat (plus one one)", "vcons nat one o (vcons nat o y (vnil nat))"),
		def(t, "x", "nat -> void -> Type0", "fun x : nat => void.rec@1 (fun y : void => Type0)"),
		def(t, "x", "(fun A : Type1 => A -> A) (list nat)", "fun l : list nat => cons nat o l"),
		def(t, "x", "let A : Type1 := nat -> nat in A", "fun x : n => x"),
	} {
		allowed(t, "computed", e, c, 200)
	}
	for _, c := range []call{
		def(t, "x", "eq nat (plus two two) (s two)", "refl nat (plus two two)"),
		def(t, "x", "vec nat (plus one two)", "vcons nat one o (vcons nat o y (vnil nat))"),
		def(t, "x", "(fun A : Type1 => A -> A) (list nat)", "fun l : list nat => o"),
	} {
		refused(t, "computed", e, c, 200, api.ErrType)
	}
}

func TestP18_1NoType(t *testing.T) {
	e := known(t)
	for _, c := range []struct {
		a    string
		err  api.Errno
		took int
	}{
		{"Type9", api.ErrSort, 1},
		{"o", api.ErrSort, 1},
		{"s", api.ErrSort, 1},
		{"s o", api.ErrSort, 4},
		{"inc", api.ErrSort, 2},
		{"two", api.ErrSort, 2},
		{"fun x : nat => nat", api.ErrSort, 3},
		{"p", api.ErrSort, 1},
		{"list", api.ErrSort, 1},
		{"nat -> o", api.ErrSort, 3},
		{"o -> nat", api.ErrSort, 2},
		{"pi A : Type9, A", api.ErrSort, 2},
		{"nat.rec@9", api.ErrSort, 1},
		{"nat.rec@0", api.ErrSort, 1},
		{"nowhere", api.ErrName, 1},
		{"nowhere.rec@1", api.ErrName, 1},
		{"o.rec@0", api.ErrName, 1},
		{"nat -> nowhere", api.ErrName, 3},
		{"x", api.ErrName, 1},
		{"x -> nat", api.ErrName, 2},
		{"p nat", api.ErrType, 4},
		{"p s", api.ErrType, 4},
		{"list two", api.ErrType, 5},
		{"nat nat", api.ErrFun, 2},
		{"two two", api.ErrFun, 3},
		{"p o o", api.ErrFun, 5},
		{"large Type9", api.ErrSort, 3},
	} {
		fails(t, "axiom", e, axiom(t, "x", c.a), c.err, c.took)
		// The type is asked ahead of the value.
		fails(t, "definition", e, def(t, "x", c.a, "o"), c.err, c.took)
		fails(t, "definition", e, def(t, "x", c.a, "nowhere"), c.err, c.took)
		if c.a == "x" || c.a == "x -> nat" {
			continue
		}
		// As a part of a family's type, and of a constructor's.
		fails(t, "family", e, family(t, "x", 0, "("+c.a+") -> Type0"), c.err, c.took+1)
		fails(t, "constructor", e, family(t, "x", 0, "Type0", "c", "("+c.a+") -> x"), c.err, c.took+2)
	}
}

func TestP18_1NotOfIt(t *testing.T) {
	e := known(t)
	for _, c := range []struct {
		a, b string
		err  api.Errno
		took int
	}{
		{"nat", "nat", api.ErrType, 1 + 1 + 1},
		{"nat", "s", api.ErrType, 1 + 1 + 1},
		{"nat", "Type0", api.ErrType, 1 + 1 + 1},
		{"nat -> nat", "o", api.ErrType, 3 + 1 + 1},
		{"void", "o", api.ErrType, 1 + 1 + 1},
		{"Type1", "Type1", api.ErrType, 1 + 1 + 1},
		{"Type0", "Type0", api.ErrType, 1 + 1 + 1},
		// Up is for what is behind a product, not for its part.
		{"Type1 -> Type0", "fun x : Type0 => nat", api.ErrType, 3 + 3 + 1 + 1},
		{"Type0 -> Type0", "fun x : Type1 => nat", api.ErrType, 3 + 3 + 1 + 1},
		{"nat", "nowhere", api.ErrName, 1 + 1},
		{"nat", "x", api.ErrName, 1 + 1},
		{"nat", "s x", api.ErrName, 1 + 1 + 1 + 1},
		{"nat -> nat", "fun y : nat => x y", api.ErrName, 3 + 4},
		{"nat", "o o", api.ErrFun, 1 + 2},
		{"nat", "s nat", api.ErrType, 1 + 4},
		{"nat", "large Type9", api.ErrSort, 1 + 3},
		{"nat", "fun x : o => x", api.ErrSort, 1 + 2},
	} {
		fails(t, "definition", e, def(t, "x", c.a, c.b), c.err, c.took)
	}
}

// Variables that aren't around, in what is a term.
func TestP18_1Variables(t *testing.T) {
	e := known(t)
	nat := constant("nat")
	for n := range 4 {
		x := variable(n)
		fails(t, "axiom", e, call{kind: api.DAxiom, name: "x", a: x}, api.ErrVar, 1)
		fails(t, "axiom", e, call{kind: api.DAxiom, name: "x", a: pi(sort(0), variable(n+1))}, api.ErrVar, 3)
		fails(t, "type", e, call{kind: api.DDef, name: "x", a: x, b: constant("o")}, api.ErrVar, 1)
		fails(t, "value", e, call{kind: api.DDef, name: "x", a: nat, b: x}, api.ErrVar, 2)
		fails(t, "value", e, call{kind: api.DDef, name: "x", a: pi(nat, nat), b: lam(nat, variable(n+1))}, api.ErrVar, 6)
	}
	takes(t, "bound", e, call{kind: api.DAxiom, name: "x", a: pi(sort(0), variable(0))}, 3)
	takes(t, "bound", e, call{kind: api.DDef, name: "x", a: pi(nat, nat), b: lam(nat, variable(0))}, 7)
}

// badNames are names that no declaration has.
var badNames = []string{
	"", ".", "a.", ".a", "a..b", "1", "1a", "_", "_a", "a.1", "a b", " a", "a ", "a@1", "a-b", "é", "a\x00", "\xff", "a\n",
	strings.Repeat("a", 25), strings.Repeat("a", 12) + "." + strings.Repeat("b", 12), strings.Repeat("a", 1<<20),
	"a.rec", "a.b.rec", "nat.rec", "o.rec", "a.rec.rec", "rec.rec", "fun.rec", ".rec", strings.Repeat("a", 20) + ".rec", strings.Repeat("a", 21) + ".rec",
}

// each are an axiom, a definition, a family, and families with a constructor of a name, good but for the name.
func each(name string) []call {
	nat, x := constant("nat"), constant("family")
	return []call{
		{kind: api.DAxiom, name: name, a: nat},
		{kind: api.DDef, name: name, a: nat, b: constant("o")},
		{kind: api.DFamily, name: name, a: sort(0)},
		{kind: api.DFamily, name: "family", a: sort(0), cons: []api.Con{{Name: name, Type: x}}},
		{kind: api.DFamily, name: "family", a: sort(0), cons: []api.Con{{Name: "first", Type: x}, {Name: name, Type: x}, {Name: "last", Type: x}}},
	}
}

func TestP18_1Names(t *testing.T) {
	e := known(t)
	for _, name := range badNames {
		for _, c := range each(name) {
			for _, fuel := range []int{0, 100} {
				if err := refused(t, "bad name", e, c, fuel, api.ErrForm); err != nil && !strings.Contains(err.Error(), strconv.Quote(name)) {
					t.Errorf("%.40q isn't told: %.100v", name, err)
				}
			}
		}
	}
	for _, name := range []string{"a", "Z", "a0_", "a.b_1.C", "rec", "rec.a", "a.rec.b", "a.recs", "nat.x", "nat.rec.x", "Type10", "fun", "pi", "let", "in", "Type0", strings.Repeat("a", 24), strings.Repeat("a", 11) + "." + strings.Repeat("b", 12), "a.b.c.d.e.f.g.h.i.j.k.lm"} {
		for _, c := range each(name) {
			allowed(t, "good name", e, c, 100)
		}
	}
}

// A name is taken, whatever is of that name.
func TestP18_1NamesTaken(t *testing.T) {
	e := known(t)
	for _, d := range e.List() {
		for _, c := range each(d.Name) {
			for _, fuel := range []int{0, 100} {
				if err := refused(t, "taken", e, c, fuel, api.ErrName); err != nil && !strings.Contains(err.Error(), strconv.Quote(d.Name)) {
					t.Errorf("%s isn't told: %v", d.Name, err)
				}
			}
		}
		less := e.Cut(0)
		for _, c := range each(d.Name) {
			if c.kind == api.DFamily {
				allowed(t, "free", less, c, 100)
			}
		}
	}
}

// noTerms are what isn't a term, by what is wrong with it.
func noTerms() map[string]*api.Term {
	round := pi(constant("nat"), nil)
	round.B = round
	twice := constant("nat")
	for range 50 {
		twice = pi(twice, twice)
	}
	deep := constant("nat")
	for range 1 << 16 {
		deep = pi(constant("nat"), deep)
	}
	return map[string]*api.Term{
		"none":                      nil,
		"no Kind":                   {},
		"a Kind that isn't":         {Kind: 8},
		"a sort too great":          sort(10),
		"a sort below 0":            sort(-1),
		"a variable below 0":        pi(sort(0), variable(-1)),
		"a variable too great":      variable(100001),
		"a part lacks":              pi(sort(0), nil),
		"the first part lacks":      pi(nil, sort(0)),
		"a let without a value":     let(sort(0), nil, sort(0)),
		"a part too much":           {Kind: api.TPi, A: sort(0), B: sort(0), C: sort(0)},
		"a name too much":           {Kind: api.TSort, Name: "nat"},
		"a number too much":         {Kind: api.TConst, Name: "nat", N: 1},
		"a constant without a name": constant(""),
		"a constant that is a word": constant("fun"),
		"a recursor, too great":     rec("nat.rec", 10),
		"without an end":            round,
		"shared":                    twice,
		"deep":                      deep,
	}
}

func TestP18_1NoTerms(t *testing.T) {
	e := known(t)
	nat, o := constant("nat"), constant("o")
	for what, x := range noTerms() {
		for _, c := range []call{
			{kind: api.DAxiom, name: "x", a: x},
			{kind: api.DDef, name: "x", a: x, b: o},
			{kind: api.DDef, name: "x", a: nat, b: x},
			{kind: api.DDef, name: "x", a: x, b: x},
			{kind: api.DFamily, name: "x", a: x},
			{kind: api.DFamily, name: "x", a: sort(0), cons: []api.Con{{Name: "c", Type: x}}},
			{kind: api.DFamily, name: "x", a: sort(0), cons: []api.Con{{Name: "c", Type: constant("x")}, {Name: "d", Type: x}}},
			// Whatever else is wrong.
			{kind: api.DAxiom, name: "y", a: x},
			{kind: api.DAxiom, name: "nat.rec", a: x},
			{kind: api.DDef, name: "y", a: x, b: o},
			{kind: api.DDef, name: "y", a: constant("nowhere"), b: x},
			{kind: api.DDef, name: "x", a: o, b: x},
			{kind: api.DFamily, name: "y", params: 3, a: x},
			{kind: api.DFamily, name: "y", a: constant("nowhere"), cons: []api.Con{{Name: "o", Type: x}}},
		} {
			for _, fuel := range []int{0, 2, 100} {
				refused(t, what, e, c, fuel, api.ErrForm)
			}
			refused(t, what, filled(t, e, api.MaxDecls), c, 100, api.ErrForm)
		}
	}
}
