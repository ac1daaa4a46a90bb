package posit_test

import (
	"errors"
	"math"
	"strconv"
	"strings"
	"testing"

	"vademecum/api"
	"vademecum/lex"
	"vademecum/posit"
	"vademecum/syntax"
)

func sort(n int) *api.Term { return &api.Term{Kind: api.TSort, N: n} }

func variable(n int) *api.Term { return &api.Term{Kind: api.TVar, N: n} }

func constant(name string) *api.Term { return &api.Term{Kind: api.TConst, Name: name} }

func rec(name string, n int) *api.Term { return &api.Term{Kind: api.TConst, Name: name, N: n} }

func pi(a, b *api.Term) *api.Term { return &api.Term{Kind: api.TPi, A: a, B: b} }

func lam(a, b *api.Term) *api.Term { return &api.Term{Kind: api.TLam, A: a, B: b} }

func app(a, b *api.Term) *api.Term { return &api.Term{Kind: api.TApp, A: a, B: b} }

func let(a, b, c *api.Term) *api.Term { return &api.Term{Kind: api.TLet, A: a, B: b, C: c} }

// apply is a term applied to others.
func apply(f *api.Term, l ...*api.Term) *api.Term {
	for _, t := range l {
		f = app(f, t)
	}
	return f
}

// dump is all that a term has, as a text: two texts are the same just where the terms are.
func dump(t *api.Term) string {
	var text strings.Builder
	var add func(t *api.Term)
	add = func(t *api.Term) {
		if t == nil {
			text.WriteString("-")
			return
		}
		text.WriteString("(" + strconv.Itoa(t.Kind) + " " + strconv.Itoa(t.N) + " " + strconv.Quote(t.Name))
		add(t.A)
		add(t.B)
		add(t.C)
		text.WriteString(")")
	}
	add(t)
	return text.String()
}

// dumpCons is all that constructors have.
func dumpCons(cons []api.Con) string {
	text := ""
	for _, c := range cons {
		text += strconv.Quote(c.Name) + dump(c.Type) + "; "
	}
	return text
}

// dumpFamily is all that a family has.
func dumpFamily(f api.Family) string {
	return strconv.Itoa(f.Params) + " " + strconv.Itoa(f.Indices) + " " + strconv.Itoa(f.Sort) + " " + dumpCons(f.Cons)
}

// of is the term of a text, under variables of some names, the innermost one last, with blanks between.
func of(t *testing.T, text, around string) *api.Term {
	t.Helper()
	words, err := lex.Words(text)
	if err != nil {
		t.Fatalf("%q: %v", text, err)
	}
	x, rest, err := syntax.Parse(words, strings.Fields(around))
	if err != nil || len(rest) > 0 {
		t.Fatalf("%q: %v, %q", text, err, rest)
	}
	return x
}

// cons are constructors as a name, a type, a name, a type ..
func cons(t *testing.T, l ...string) []api.Con {
	t.Helper()
	var made []api.Con
	for i := 0; i < len(l); i += 2 {
		made = append(made, api.Con{Name: l[i], Type: of(t, l[i+1], "")})
	}
	return made
}

// allowed holds Shape of a family that may be against what it should tell.
func allowed(t *testing.T, what, name string, params int, a *api.Term, l []api.Con, indices, into int) {
	t.Helper()
	f, err := posit.Shape(name, params, a, l)
	want := dumpFamily(api.Family{Params: params, Indices: indices, Sort: into, Cons: l})
	if err != nil || dumpFamily(f) != want {
		t.Errorf("%s: %.400s, %v; want %.400s", what, dumpFamily(f), err, want)
	}
}

// refused holds Shape of a family that may not be against the number that it should tell, with whose name it is.
func refused(t *testing.T, what, name string, params int, a *api.Term, l []api.Con, want api.Errno) error {
	t.Helper()
	f, err := posit.Shape(name, params, a, l)
	var told api.Errno
	switch {
	case !errors.Is(err, want) || !errors.As(err, &told) || told != want:
		t.Errorf("%s: %.400s, %v; want %v", what, dumpFamily(f), err, want)
	case !strings.HasPrefix(err.Error(), "posit: ") || !strings.HasSuffix(err.Error(), want.Error()):
		t.Errorf("%s: told as %q", what, err)
	}
	if dumpFamily(f) != dumpFamily(api.Family{}) {
		t.Errorf("%s: %.400s beside an error", what, dumpFamily(f))
	}
	return err
}

// shape: a family as texts: its constructors as a name, a type, a name, a type ..
type shape struct {
	what   string
	name   string
	params int
	typ    string
	cons   []string
}

// list is a row of texts.
func list(l ...string) []string { return l }

// mayNotBe asks for ErrPos of each.
func mayNotBe(t *testing.T, rows []shape) {
	t.Helper()
	for _, c := range rows {
		refused(t, c.what, c.name, c.params, of(t, c.typ, ""), cons(t, c.cons...), api.ErrPos)
	}
}

// good are families that may be, with how many indices they have, and their sort.
var good = []struct {
	shape
	indices, sort int
}{
	{shape{"no constructors", "void", 0, "Type0", nil}, 0, 0},
	{shape{"the greatest sort", "void", 0, "Type9", nil}, 0, 9},
	{shape{"numbers", "nat", 0, "Type0", list("o", "nat", "s", "nat -> nat")}, 0, 0},
	{shape{"a parameter", "list", 1, "Type0 -> Type0", list("nil", "pi A : Type0, list A", "cons", "pi A : Type0, A -> list A -> list A")}, 0, 0},
	{shape{"a parameter and an index", "vec", 1, "Type0 -> nat -> Type2", list("vnil", "pi A : Type0, vec A o", "vcons", "pi A : Type0, pi n : nat, A -> vec A n -> vec A (s n)")}, 1, 2},
	{shape{"all are indices", "vec", 0, "Type0 -> nat -> Type2", list("vnil", "pi A : Type0, vec A o", "vcons", "pi A : Type0, pi n : nat, A -> vec A n -> vec A (s n)")}, 2, 2},
	{shape{"all are parameters", "pair", 2, "Type0 -> Type1 -> Type1", list("both", "pi A : Type0, pi B : Type1, A -> B -> pair A B")}, 0, 1},
	{shape{"a parameter under another one", "eq", 2, "pi A : Type0, A -> A -> Type0", list("refl", "pi A : Type0, pi x : A, eq A x x")}, 1, 0},
	{shape{"an index that could be a parameter", "eq", 1, "pi A : Type0, A -> A -> Type0", list("refl", "pi A : Type0, pi x : A, eq A x x")}, 2, 0},
	{shape{"under a product", "tree", 0, "Type3", list("node", "(nat -> tree) -> tree")}, 0, 3},
	{shape{"under products of all kinds", "tree", 0, "Type0", list("node", "(pi x : Type0, pi y : (x -> x), (let z : a := b in z) -> tree) -> tree")}, 0, 0},
	{shape{"under a product, by an index", "acc", 2, "pi A : Type0, (A -> A -> Type0) -> A -> Type0", list("intro", "pi A : Type0, pi R : A -> A -> Type0, pi x : A, (pi y : A, R y x -> acc A R y) -> acc A R x")}, 1, 0},
	{shape{"an argument applied to too little", "f", 0, "nat -> Type0", list("c", "f -> f o")}, 1, 0},
	{shape{"an argument applied to too much", "f", 1, "Type0 -> Type0", list("c", "pi A : Type0, f A o (s o) -> f A")}, 0, 0},
	{shape{"indices of all kinds", "f", 0, "nat -> Type0 -> Type0", list("c", "f (g Type3) (pi x : nat, p x)", "d", "f (fun x : nat => x) (let x : nat := o in x) -> pi y : nat, f y.z y.rec@2")}, 2, 0},
	{shape{"names that are longer, or shorter", "f.g", 0, "f -> f.g.h -> fg -> Type0", list("c", "f -> f.g.h -> g -> (f.g.rec.x -> f.rec@3 -> f.g.h.rec@0 -> f.g f f fg) -> f.g f.g.h fff fg")}, 3, 0},
	{shape{"constructors' names in types", "f", 0, "c -> Type0", list("c", "c -> d -> f c", "d", "f d")}, 1, 0},
	{shape{"names with points", "s.t.f", 0, "Type0", list("s.c", "s.t.f", "s.t.f.c", "s.t.f -> s.t.f", "f", "s.t.f")}, 0, 0},
	{shape{"a parameter's type that is a variable", "f", 2, "pi A : Type0, A -> Type0", list("c", "pi A : Type0, pi x : A, f A x -> (A -> f A x) -> f A x")}, 0, 0},
	{shape{"the name of a word", "fun", 0, "Type0", nil}, 0, 0},
	{shape{"constructors by names of words", "f", 0, "Type0", list("let", "f", "Type0", "f -> f")}, 0, 0},
	{shape{"a name that ends as a recursor", "rec", 0, "Type0", list("c", "rec -> rec")}, 0, 0},
	{shape{"not of its type", "f", 1, "o -> Type4", list("c", "pi x : o, x x -> f x")}, 0, 4},
}

func TestP17_1Good(t *testing.T) {
	for _, c := range good {
		allowed(t, c.what, c.name, c.params, of(t, c.typ, ""), cons(t, c.cons...), c.indices, c.sort)
	}
}

// Names that no declaration has.
var badNames = []string{
	"", ".", "a.", ".a", "a..b", "1", "1a", "_", "_a", "a.1", "a b", " a", "a ", "a@1", "a-b", "é", "a\x00", "\xff", "a\n",
	strings.Repeat("a", 25), strings.Repeat("a", 12) + "." + strings.Repeat("b", 12), strings.Repeat("a", 1<<20),
	"a.rec", "a.b.rec", "a.rec.rec", "rec.rec", "fun.rec", ".rec", strings.Repeat("a", 20) + ".rec", strings.Repeat("a", 21) + ".rec",
}

func TestP17_1Names(t *testing.T) {
	f := constant("f")
	for _, name := range badNames {
		whose := strconv.Quote(name)
		if err := refused(t, "family", name, 0, sort(0), nil, api.ErrForm); !strings.Contains(err.Error(), whose) {
			t.Errorf("%.30s: told as %.60s", whose, err)
		}
		if err := refused(t, "constructor", "f", 0, sort(0), []api.Con{{Name: "c", Type: f}, {Name: name, Type: f}}, api.ErrForm); !strings.Contains(err.Error(), whose) {
			t.Errorf("%.30s: told as %.60s", whose, err)
		}
	}
	for _, name := range []string{"a", "Z", "a0_", "a.b_1.C", "rec", "rec.a", "a.rec.b", "a.recs", "Type10", "pi", strings.Repeat("a", 24), strings.Repeat("a", 11) + "." + strings.Repeat("b", 12), "a.b.c.d.e.f.g.h.i.j.k.lm"} {
		allowed(t, "family", name, 0, sort(1), []api.Con{}, 0, 1)
		allowed(t, "constructor", "f", 0, sort(1), []api.Con{{Name: name, Type: f}}, 0, 1)
	}
	for _, name := range []string{"a", "Z", "a0_", "a.b_1.C", "rec", strings.Repeat("a", 24)} {
		allowed(t, "family", name, 0, sort(1), []api.Con{{Name: "c", Type: pi(constant(name), constant(name))}}, 0, 1)
	}
}

// A name is there once.
func TestP17_1NamesThereTwice(t *testing.T) {
	for _, l := range [][]string{{"f"}, {"c", "f"}, {"f", "c"}, {"c", "c"}, {"c", "d", "c"}, {"d", "c", "c"}, {"a", "b", "c", "d", "e", "g", "h", "a"}, {"a", "b", "c", "d", "e", "g", "h", "f"}} {
		var texts []string
		for _, name := range l {
			texts = append(texts, name, "f")
		}
		refused(t, strings.Join(l, " "), "f", 0, sort(0), cons(t, texts...), api.ErrForm)
	}
}

func TestP17_1Counts(t *testing.T) {
	for _, n := range []int{math.MinInt, -1 << 40, -2, -1, 13, 14, 1 << 20, math.MaxInt} {
		refused(t, strconv.Itoa(n), "f", n, sort(0), nil, api.ErrForm)
	}
	for n := 0; n < 20; n++ {
		var l []api.Con
		for i := range n {
			l = append(l, api.Con{Name: "c" + strconv.Itoa(i), Type: constant("f")})
		}
		if n <= 8 {
			allowed(t, strconv.Itoa(n), "f", 0, sort(0), l, 0, 0)
		} else {
			refused(t, strconv.Itoa(n), "f", 0, sort(0), l, api.ErrForm)
		}
	}
	refused(t, "very many", "f", 0, sort(0), make([]api.Con, 1<<22), api.ErrForm)
}

// noTerms are terms that aren't, or that have variables around.
func noTerms() map[string]*api.Term {
	round := pi(constant("a"), nil)
	round.B = round
	twice := constant("f")
	for range 50 {
		twice = app(twice, twice)
	}
	return map[string]*api.Term{
		"none":                      nil,
		"no Kind":                   {},
		"a Kind that isn't":         {Kind: 8},
		"a sort too great":          sort(10),
		"a sort below 0":            sort(-1),
		"a part lacks":              pi(sort(0), nil),
		"the first part lacks":      pi(nil, sort(0)),
		"a part too much":           {Kind: api.TPi, A: sort(0), B: sort(0), C: sort(0)},
		"a name too much":           {Kind: api.TSort, Name: "f"},
		"a number too much":         {Kind: api.TConst, Name: "f", N: 1},
		"a constant without a name": constant(""),
		"a constant that is a word": constant("fun"),
		"a variable":                variable(0),
		"a variable, deep":          pi(sort(0), variable(1)),
		"a variable in a let":       let(sort(0), variable(0), sort(0)),
		"a great variable":          pi(sort(0), pi(variable(100000), sort(0))),
		"without an end":            round,
		"very large":                twice,
	}
}

func TestP17_1Terms(t *testing.T) {
	for what, x := range noTerms() {
		refused(t, what, "f", 0, x, nil, api.ErrForm)
		refused(t, what, "f", 0, x, []api.Con{{Name: "c", Type: constant("f")}}, api.ErrForm)
		if err := refused(t, what, "f", 0, sort(0), []api.Con{{Name: "c.d", Type: x}}, api.ErrForm); !strings.Contains(err.Error(), `"c.d"`) {
			t.Errorf("%s: told as %q", what, err)
		}
		refused(t, what, "f", 0, sort(0), []api.Con{{Name: "c", Type: constant("f")}, {Name: "d", Type: x}}, api.ErrForm)
	}
}

// What is ill-formed is told ahead of what may not be, wherever the one and the other are.
func TestP17_1IllFormedFirst(t *testing.T) {
	bad := api.Con{Name: "bad", Type: pi(pi(constant("f"), constant("a")), constant("f"))}
	types := []*api.Term{sort(0), constant("f"), pi(constant("f"), sort(0))}
	for i, a := range types {
		what := strconv.Itoa(i)
		refused(t, what+", as it may not be", "f", 0, a, []api.Con{bad}, api.ErrPos)
		for _, params := range []int{-1, 13} {
			refused(t, what+", parameters", "f", params, a, []api.Con{bad}, api.ErrForm)
		}
		refused(t, what+", many", "f", 0, a, append(many(8), bad), api.ErrForm)
		refused(t, what+", its name", "f.rec", 0, a, []api.Con{bad}, api.ErrForm)
		for _, c := range []api.Con{{Name: "f", Type: constant("f")}, {Name: "bad", Type: constant("f")}, {Name: "c.rec", Type: constant("f")}, {Type: constant("f")}, {Name: "c"}, {Name: "c", Type: variable(0)}} {
			refused(t, what+", behind", "f", 0, a, []api.Con{bad, c}, api.ErrForm)
			refused(t, what+", ahead", "f", 0, a, []api.Con{c, bad}, api.ErrForm)
		}
	}
	for what, x := range noTerms() {
		refused(t, what, "f", 3, x, []api.Con{bad}, api.ErrForm)
		refused(t, what, "f", 3, sort(0), []api.Con{bad, {Name: "c", Type: x}}, api.ErrForm)
	}
}

// many are so many constructors that may be.
func many(n int) []api.Con {
	var l []api.Con
	for i := range n {
		l = append(l, api.Con{Name: "many" + strconv.Itoa(i), Type: constant("f")})
	}
	return l
}

func TestP17_1Types(t *testing.T) {
	mayNotBe(t, []shape{
		{"a constant", "f", 0, "a", nil},
		{"a constant behind a product", "f", 0, "a -> b", nil},
		{"a sort applied", "f", 0, "Type0 a", nil},
		{"a function", "f", 0, "fun x : a => Type0", nil},
		{"a function behind a product", "f", 0, "a -> fun x : a => Type0", nil},
		{"a let", "f", 0, "let x : a := b in Type0", nil},
		{"a product in a let", "f", 0, "let x : a := b in a -> Type0", nil},
		{"what isn't reduced", "f", 0, "(fun x : Type1 => x) Type0", nil},
		{"a variable", "f", 0, "pi x : Type1, x", nil},
		{"a parameter lacks", "f", 1, "Type0", nil},
		{"parameters lack", "f", 12, "Type0", nil},
		{"one of them lacks", "f", 3, "a -> a -> Type0", nil},
		{"one is in a let", "f", 2, "a -> let x : a := b in a -> Type0", nil},
		{"itself", "f", 0, "f", nil},
		{"itself, applied", "f", 0, "f Type0", nil},
		{"itself in a product", "f", 0, "f -> Type0", nil},
		{"itself in the last one", "f", 2, "a -> b -> g (h f) -> Type0", nil},
		{"itself in a parameter's type", "f", 2, "a -> (b -> f) -> c -> Type0", nil},
		{"itself in a function", "f", 0, "(fun x : f => x) a -> Type0", nil},
		{"itself in a let", "f", 0, "(let x : a := f in x) -> Type0", nil},
		{"its recursor", "f", 0, "f.rec@0 -> Type0", nil},
		{"its recursor into another sort", "f", 1, "a -> g f.rec@9 -> Type0", nil},
		{"its recursor, by a long name", "f.g", 0, "f.g.rec@1 -> Type0", nil},
	})
}

func TestP17_1Parameters(t *testing.T) {
	mayNotBe(t, []shape{
		{"it lacks", "f", 1, "Type0 -> Type0", list("c", "f a")},
		{"one of them lacks", "f", 2, "Type0 -> Type0 -> Type0", list("c", "pi A : Type0, f A A")},
		{"of another type", "f", 1, "Type0 -> Type0", list("c", "pi A : Type1, f A")},
		{"of another type, the second one", "f", 2, "Type0 -> nat -> Type0", list("c", "pi A : Type0, pi x : A, f A x")},
		{"of another type, the first one", "f", 2, "nat -> nat -> Type0", list("c", "pi x : a, pi y : nat, f x y")},
		{"the other way round", "f", 2, "nat -> Type0 -> Type0", list("c", "pi A : Type0, pi x : nat, f x A")},
		{"of a type that comes to the same", "f", 1, "nat -> Type0", list("c", "pi x : (fun y : Type0 => y) nat, f x")},
		{"of a let's type", "f", 1, "nat -> Type0", list("c", "pi x : (let y : Type0 := nat in y), f x")},
		{"behind an argument", "f", 1, "Type0 -> Type0", list("c", "nat -> pi A : Type0, f A")},
		{"the family itself", "f", 1, "nat -> Type0", list("c", "pi x : f, f x")},
		{"in a function", "f", 1, "Type0 -> Type0", list("c", "fun A : Type0 => f A")},
		{"in a let", "f", 1, "Type0 -> Type0", list("c", "let A : Type1 := Type0 in f A")},
		{"of the second constructor", "f", 1, "Type0 -> Type0", list("c", "pi A : Type0, f A", "d", "pi A : Type1, f A")},
	})
	// Only the parameters are the family's: indices are any.
	allowed(t, "indices", "f", 1, of(t, "Type0 -> nat -> Type0 -> Type0", ""), cons(t, "c", "pi A : Type0, pi x : A, f A x x", "d", "pi A : Type0, f A A o"), 2, 0)
}

func TestP17_1Ends(t *testing.T) {
	mayNotBe(t, []shape{
		{"another constant", "f", 0, "Type0", list("c", "a")},
		{"another constant behind a product", "f", 0, "Type0", list("c", "f -> a")},
		{"another family applied to it", "f", 0, "Type0", list("c", "list f")},
		{"a longer name", "f", 0, "Type0", list("c", "f.f")},
		{"a sort", "f", 0, "Type0", list("c", "Type0")},
		{"a variable", "f", 0, "Type0", list("c", "pi x : Type0, x")},
		{"a function", "f", 0, "Type0", list("c", "fun x : a => f")},
		{"a function behind a product", "f", 0, "Type0", list("c", "a -> fun x : a => f")},
		{"a let", "f", 0, "Type0", list("c", "let x : a := b in f")},
		{"a let of itself", "f", 0, "Type0", list("c", "let x : Type0 := f in x")},
		{"what isn't reduced", "f", 0, "Type0", list("c", "(fun x : a => f) b")},
		{"its recursor", "f", 0, "Type0", list("c", "f.rec@0")},
		{"an argument too much", "f", 0, "Type0", list("c", "f a")},
		{"itself too much", "f", 0, "Type0", list("c", "f f")},
		{"a product too much", "f", 0, "Type0", list("c", "f (a -> f)")},
		{"an index lacks", "f", 0, "a -> Type0", list("c", "f")},
		{"an index lacks behind a parameter", "f", 1, "a -> a -> Type0", list("c", "pi x : a, f x")},
		{"an index too much", "f", 0, "a -> Type0", list("c", "f b b")},
		{"an index too much behind a parameter", "f", 1, "a -> a -> Type0", list("c", "pi x : a, f x x x")},
		{"a parameter lacks", "f", 1, "a -> Type0", list("c", "pi x : a, f")},
		{"another one than the parameter", "f", 1, "a -> Type0", list("c", "pi x : a, f b")},
		{"an argument for the parameter", "f", 1, "a -> Type0", list("c", "pi x : a, pi y : a, f y")},
		{"parameters the other way round", "f", 2, "a -> a -> Type0", list("c", "pi x : a, pi y : a, f y x")},
		{"one parameter twice", "f", 2, "a -> a -> Type0", list("c", "pi x : a, pi y : a, f x x")},
		{"what comes to the parameter", "f", 1, "a -> Type0", list("c", "pi x : a, f ((fun y : a => y) x)")},
		{"an index for the parameter", "f", 1, "a -> a -> Type0", list("c", "pi x : a, f b x")},
		{"itself in an index", "f", 0, "a -> Type0", list("c", "f (g f)")},
		{"itself in the second index", "f", 0, "a -> a -> Type0", list("c", "f b (f b b)")},
		{"itself in an index's product", "f", 0, "a -> Type0", list("c", "f (b -> f b)")},
		{"its recursor in an index", "f", 0, "a -> Type0", list("c", "f f.rec@1")},
		{"the second one", "f", 0, "Type0", list("c", "f", "d", "a")},
		{"the last one", "f", 0, "Type0", list("a", "f", "b", "f", "c", "f", "d", "f", "e", "f", "g", "f", "h", "f", "i", "a -> f a")},
	})
}

func TestP17_1Arguments(t *testing.T) {
	mayNotBe(t, []shape{
		{"of what it takes", "f", 0, "Type0", list("c", "(f -> a) -> f")},
		{"of itself by itself", "f", 0, "Type0", list("c", "(f -> f) -> f")},
		{"of what takes what takes it", "f", 0, "Type0", list("c", "((f -> a) -> a) -> f")},
		{"of what takes what takes it, and ends in it", "f", 0, "Type0", list("c", "((f -> a) -> f) -> f")},
		{"of what it takes, the second one", "f", 0, "Type0", list("c", "(a -> f -> f) -> f")},
		{"of another family of it", "f", 0, "Type0", list("c", "list f -> f")},
		{"of another family of it, under a product", "f", 0, "Type0", list("c", "(a -> list f) -> f")},
		{"of a variable of it", "f", 0, "Type0", list("c", "pi g : (Type0 -> Type0), g f -> f")},
		{"of itself of itself", "f", 0, "Type0 -> Type0", list("c", "f (f a) -> f a")},
		{"of itself too much", "f", 0, "Type0", list("c", "f f -> f")},
		{"in a function", "f", 0, "Type0", list("c", "(fun x : a => f) -> f")},
		{"in a function that is applied", "f", 0, "Type0", list("c", "(fun x : a => f) b -> f")},
		{"in a let's type", "f", 0, "Type0", list("c", "(let x : f := b in a) -> f")},
		{"in a let's value", "f", 0, "Type0", list("c", "(let x : Type0 := f in a) -> f")},
		{"in a let", "f", 0, "Type0", list("c", "(let x : a := b in f) -> f")},
		{"in a let under a product", "f", 0, "Type0", list("c", "(a -> let x : a := b in f) -> f")},
		{"of its recursor", "f", 0, "Type0", list("c", "f.rec@0 -> f")},
		{"of its recursor applied", "f", 0, "Type0", list("c", "f.rec@1 a b -> f")},
		{"its recursor under a product", "f", 0, "Type0", list("c", "(a -> f.rec@1) -> f")},
		{"its recursor in a product", "f", 0, "Type0", list("c", "(f.rec@0 a -> f) -> f")},
		{"its recursor in an index", "f", 0, "a -> Type0", list("c", "f (f.rec@7 a) -> f a")},
		{"itself in an index under a product", "f", 0, "a -> Type0", list("c", "(b -> f (g f)) -> f a")},
		{"another one than the parameter", "f", 1, "Type0 -> Type0", list("c", "pi A : Type0, f a -> f A")},
		{"another variable than the parameter", "f", 1, "Type0 -> Type0", list("c", "pi A : Type0, pi B : Type0, f B -> f A")},
		{"a variable further in", "f", 1, "Type0 -> Type0", list("c", "pi A : Type0, (pi B : Type0, f B) -> f A")},
		{"parameters the other way round", "f", 2, "Type0 -> Type0 -> Type0", list("c", "pi A : Type0, pi B : Type0, f B A -> f A B")},
		{"a parameter lacks", "f", 2, "Type0 -> Type0 -> Type0", list("c", "pi A : Type0, pi B : Type0, f A -> f A B")},
		{"all parameters lack", "f", 1, "Type0 -> Type0", list("c", "pi A : Type0, f -> f A")},
		{"a parameter that is larger", "f", 1, "Type0 -> Type0", list("c", "pi A : Type0, f (A -> A) -> f A")},
		{"itself for the parameter", "f", 1, "Type0 -> Type0", list("c", "pi A : Type0, f (f A) -> f A")},
		{"the second one", "f", 0, "Type0", list("c", "f -> (f -> a) -> f")},
		{"the last one", "f", 0, "Type0", list("c", "a -> f -> a -> (b -> f) -> (f -> f) -> f")},
		{"of the second constructor", "f", 0, "Type0", list("c", "f -> f", "d", "(f -> a) -> f")},
	})
}

// What is refused tells whose fault it is.
func TestP17_1WhoseFault(t *testing.T) {
	for _, c := range []struct {
		shape
		whose string
	}{
		{shape{"a type", "f.g", 0, "a", list("c", "f.g")}, `"f.g"`},
		{shape{"a constructor", "f", 0, "Type0", list("c.x", "f", "d.y", "a", "e.z", "f")}, `"d.y"`},
		{shape{"the first one of several", "f", 0, "Type0", list("c.x", "f", "d.y", "a", "e.z", "b")}, `"d.y"`},
		{shape{"a type and a constructor", "f.g", 0, "f.g -> Type0", list("c", "a")}, `"f.g"`},
	} {
		err := refused(t, c.what, c.name, c.params, of(t, c.typ, ""), cons(t, c.cons...), api.ErrPos)
		if !strings.Contains(err.Error(), c.whose) {
			t.Errorf("%s: told as %q", c.what, err)
		}
	}
}

func TestP17_2Plain(t *testing.T) {
	for _, c := range []struct {
		params, around int
		a              string
		vars           string
		want           bool
	}{
		{0, 0, "f", "", true},
		{0, 0, "f a", "", true},
		{0, 0, "f a (g b) (a -> b) (fun x : a => x)", "", true},
		{0, 0, "a -> f", "", true},
		{0, 0, "pi x : a, pi y : g x, (a -> x) -> f y x", "", true},
		{0, 7, "pi x : a, f x", "", true},
		{0, -7, "pi x : a, f x", "", true},
		{0, 0, "f x", "x", true},
		{1, 1, "f A", "A", true},
		{1, 1, "f A a", "A", true},
		{1, 1, "f A A", "A", true},
		{1, 2, "f A", "A x", true},
		{1, 3, "pi x : a, pi y : A, f A x y", "A b c", true},
		{2, 2, "f A B", "A B", true},
		{2, 3, "f A B C", "A B C", true},
		{2, 3, "A -> B -> f A B C", "A B C", true},
		{3, 5, "pi x : D, f A B C x E", "A B C D E", true},
		{2, 2, "f A B", "Z A B", true},
		{0, 0, "a", "", false},
		{0, 0, "a -> b", "", false},
		{0, 0, "Type0", "", false},
		{0, 0, "x", "x", false},
		{0, 0, "x f", "x", false},
		{0, 0, "g f", "", false},
		{0, 0, "f.f", "", false},
		{0, 0, "f.rec@0", "", false},
		{0, 0, "a -> f.rec@3 b", "", false},
		{0, 0, "f f", "", false},
		{0, 0, "f a f", "", false},
		{0, 0, "f (g (fun x : a => f))", "", false},
		{0, 0, "f f.rec@0", "", false},
		{0, 0, "f (b f.rec@2)", "", false},
		{0, 0, "f -> f", "", false},
		{0, 0, "a -> f -> f", "", false},
		{0, 0, "f -> a -> f", "", false},
		{0, 0, "(a -> f) -> f", "", false},
		{0, 0, "f.rec@4 -> f", "", false},
		{0, 0, "fun x : a => f", "", false},
		{0, 0, "a -> fun x : a => f", "", false},
		{0, 0, "let x : a := b in f", "", false},
		{0, 0, "(fun x : a => f) b", "", false},
		{0, 0, "(a -> f) b", "", false},
		{1, 1, "f", "A", false},
		{1, 1, "a -> f", "A", false},
		{2, 2, "f A", "A B", false},
		{1, 1, "f a", "A", false},
		{1, 2, "f B", "A B", false},
		{1, 1, "f A", "A B", false},
		{1, 3, "f A", "A B", false},
		{1, 0, "f A", "A", false},
		{1, -1, "f A", "A", false},
		{1, 1, "pi x : a, f x", "A", false},
		{1, 2, "f (g A)", "A B", false},
		{2, 2, "f B A", "A B", false},
		{2, 2, "f A A", "A B", false},
		{2, 2, "f B B", "A B", false},
		{2, 3, "f A C", "A B C", false},
		{1, 1, "f f", "A", false},
		{1, 1, "f A f", "A", false},
		{1, 1, "f A -> f A", "A", false},
		{1, 1, "f A (f A)", "A", false},
	} {
		if got := posit.Plain("f", c.params, c.around, of(t, c.a, c.vars)); got != c.want {
			t.Errorf("%s, %d parameters, %d around: %v", c.a, c.params, c.around, got)
		}
	}
}

// Plain by numbers of parameters that no family has.
func TestP17_2OddNumbers(t *testing.T) {
	f, x := constant("f"), pi(constant("a"), app(constant("f"), variable(1)))
	for _, n := range []int{math.MinInt, math.MinInt + 1, -5, -1} {
		for _, around := range []int{math.MinInt, -3, 0, 1, 9, math.MaxInt} {
			// There are no fewer parameters than none.
			if !posit.Plain("f", n, around, f) || !posit.Plain("f", n, around, x) || posit.Plain("f", n, around, pi(f, f)) {
				t.Errorf("%d parameters, %d around", n, around)
			}
		}
	}
	for _, n := range []int{2, 13, 1 << 17, 1 << 30, math.MaxInt - 1, math.MaxInt} {
		for _, around := range []int{math.MinInt, -3, 0, 1, 9, n, math.MaxInt} {
			if posit.Plain("f", n, around, f) || posit.Plain("f", n, around, x) {
				t.Errorf("%d parameters, %d around", n, around)
			}
		}
	}
	for _, around := range []int{math.MinInt, math.MinInt + 1, -1, 0, 2, 1 << 32, math.MaxInt - 1, math.MaxInt} {
		if posit.Plain("f", 1, around, x) || posit.Plain("f", 1, around, app(f, variable(3))) {
			t.Errorf("%d around", around)
		}
	}
	// More than twelve, as long as they are the parameters.
	for _, n := range []int{12, 13, 100} {
		row := constant("f")
		for i := range n {
			row = app(row, variable(n+4-i))
		}
		for around := n; around < n+9; around++ {
			if posit.Plain("f", n, around, row) != (around == n+5) || posit.Plain("f", n, around, pi(constant("a"), row)) != (around == n+4) {
				t.Errorf("%d parameters, %d around", n, around)
			}
		}
	}
}

// Plain asks for a name, whatever it is.
func TestP17_2Names(t *testing.T) {
	a := of(t, "pi x : f.g, pi y : g, f x h.rec@2", "")
	for name, want := range map[string]bool{"f": true, "g": false, "f.g": false, "h": false, "h.rec": false, "f.rec": false, "": false, "x": false, "a": false, strings.Repeat("f", 1<<20): false} {
		if got := posit.Plain(name, 0, 0, a); got != want {
			t.Errorf("%.30s: %v", name, got)
		}
	}
	if !posit.Plain("f.g", 0, 0, of(t, "f -> g -> f.h -> f.g f g", "")) || posit.Plain("f.g", 0, 0, of(t, "f -> f.g.rec@1 -> f.g", "")) {
		t.Error("a name with a point")
	}
	// A name of as many bytes as there may be: its recursor is longer than any constant's name.
	long := strings.Repeat("f", 24)
	if !posit.Plain(long, 0, 0, pi(constant("a"), constant(long))) || posit.Plain(long, 0, 0, pi(constant(long), constant(long))) {
		t.Error("a long name")
	}
	short := long[:20]
	if !posit.Plain(short, 0, 0, pi(constant(long), constant(short))) || posit.Plain(short, 0, 0, pi(rec(short+".rec", 2), constant(short))) {
		t.Error("the longest name whose recursor is said")
	}
}

// Plain of what is no term ends.
func TestP17_2NoTerms(t *testing.T) {
	for what, x := range noTerms() {
		if posit.Plain("g", 0, 0, x) || posit.Plain("g", 1, 1, x) || posit.Plain("", 0, 0, x) && what != "a constant without a name" {
			t.Errorf("%s: true", what)
		}
		// What is no term at the end of a product, or applied, isn't the family.
		if posit.Plain("g", 0, 0, pi(sort(0), x)) || posit.Plain("g", 0, 0, app(x, constant("g"))) {
			t.Errorf("%s behind a product: true", what)
		}
		if posit.Plain("g", 1, 3, app(constant("g"), x)) {
			t.Errorf("%s for a parameter: true", what)
		}
	}
}
