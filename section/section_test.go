package section_test

import (
	"errors"
	"slices"
	"strconv"
	"strings"
	"testing"

	"vademecum/api"
	"vademecum/env"
	"vademecum/lex"
	"vademecum/section"
	"vademecum/syntax"
	"vademecum/term"
)

func sort(n int) *api.Term { return &api.Term{Kind: api.TSort, N: n} }

func variable(n int) *api.Term { return &api.Term{Kind: api.TVar, N: n} }

func constant(name string) *api.Term { return &api.Term{Kind: api.TConst, Name: name} }

func pi(a, b *api.Term) *api.Term { return &api.Term{Kind: api.TPi, A: a, B: b} }

func lam(a, b *api.Term) *api.Term { return &api.Term{Kind: api.TLam, A: a, B: b} }

func let(a, b, c *api.Term) *api.Term { return &api.Term{Kind: api.TLet, A: a, B: b, C: c} }

func app(f *api.Term, l ...*api.Term) *api.Term {
	for _, x := range l {
		f = &api.Term{Kind: api.TApp, A: f, B: x}
	}
	return f
}

// parsed is the term of a text; of "" there is none.
func parsed(text string) *api.Term {
	if text == "" {
		return nil
	}
	words, err := lex.Words(text)
	if err != nil {
		panic(text)
	}
	x, rest, err := syntax.Parse(words, nil)
	if err != nil || len(rest) > 0 {
		panic(text)
	}
	return x
}

// decl is a declaration by a text: `a : Type0`, `a : Type1 := Type0`; of a family `fam f : Type0 | c : f | d : f -> f`.
func decl(text string) api.Decl {
	rest, isFamily := strings.CutPrefix(text, "fam ")
	rows := strings.Split(rest, " | ")
	name, rest, _ := strings.Cut(rows[0], " : ")
	if isFamily {
		d := api.Decl{Kind: api.DFamily, Name: name, Type: parsed(rest), Family: api.Family{Params: len(rest) % 3, Indices: len(rest) % 2, Sort: len(name)}}
		for _, row := range rows[1:] {
			con, of, _ := strings.Cut(row, " : ")
			d.Family.Cons = append(d.Family.Cons, api.Con{Name: con, Type: parsed(of)})
		}
		return d
	}
	typ, value := split(rest)
	if value == "" {
		return api.Decl{Kind: api.DAxiom, Name: name, Type: parsed(typ)}
	}
	return api.Decl{Kind: api.DDef, Name: name, Type: parsed(typ), Value: parsed(value)}
}

// split tells what stands ahead of the sign of a definition, and what behind it. A let has the same sign in it.
func split(text string) (string, string) {
	words := strings.Split(text, " ")
	lets := 0
	for i, word := range words {
		switch {
		case word == "let":
			lets++
		case word == ":=" && lets == 0:
			return strings.Join(words[:i], " "), strings.Join(words[i+1:], " ")
		case word == ":=":
			lets--
		}
	}
	return text, ""
}

// decls are declarations by texts, with the constructors of the families behind them.
func decls(texts ...string) []api.Decl {
	var l []api.Decl
	for _, text := range texts {
		d := decl(text)
		l = append(l, d)
		for _, c := range d.Family.Cons {
			l = append(l, api.Decl{Kind: api.DCon, Name: c.Name, Type: c.Type, Of: d.Name})
		}
	}
	return l
}

// of is an Env of some declarations.
func of(t *testing.T, l ...api.Decl) *env.Env {
	t.Helper()
	e := env.New()
	for _, d := range l {
		next, err := e.Add(d)
		if err != nil {
			t.Fatalf("add %q: %v", d.Name, err)
		}
		e = next
	}
	return e
}

// tell is a term as a text: two texts are the same just where the terms are.
func tell(t *api.Term) string {
	if t == nil {
		return "-"
	}
	if text := syntax.Print(t); text != "" {
		return text
	}
	return "(" + strconv.Itoa(t.Kind) + " " + strconv.Itoa(t.N) + " " + strconv.Quote(t.Name) + tell(t.A) + tell(t.B) + tell(t.C) + ")"
}

// tellDecl is a declaration as a text.
func tellDecl(d api.Decl) string {
	text := strconv.Itoa(d.Kind) + " " + strconv.Quote(d.Name) + " : " + tell(d.Type) + " := " + tell(d.Value) + " of " + strconv.Quote(d.Of)
	text += strconv.Itoa(d.Family.Params) + "," + strconv.Itoa(d.Family.Indices) + "," + strconv.Itoa(d.Family.Sort)
	for _, c := range d.Family.Cons {
		text += " | " + strconv.Quote(c.Name) + " : " + tell(c.Type)
	}
	return text
}

// tellAll is a row of declarations as a text.
func tellAll(l []api.Decl) string {
	var text strings.Builder
	for _, d := range l {
		text.WriteString(tellDecl(d) + "\n")
	}
	return text.String()
}

// brief is a row of declarations as a text, if it isn't far too long.
func brief(l []api.Decl) string {
	nodes := 0
	for _, d := range l {
		nodes += term.Size(d.Type) + term.Size(d.Value)
	}
	if nodes > 500 {
		return "many nodes: " + strconv.Itoa(nodes) + "\n"
	}
	return tellAll(l)
}

// named are the declarations of some names, in the order of the names; of a name that isn't there, an axiom.
func named(l []api.Decl, names ...string) []api.Decl {
	var found []api.Decl
	for _, name := range names {
		at := slices.IndexFunc(l, func(d api.Decl) bool { return d.Name == name })
		if at < 0 {
			found = append(found, api.Decl{Kind: api.DAxiom, Name: name, Type: sort(0)})
		} else {
			found = append(found, l[at])
		}
	}
	return found
}

// closes holds what an Env is closed to.
func closes(t *testing.T, what string, l []api.Decl, from int, vars []api.Decl, want []api.Decl) {
	t.Helper()
	e := of(t, l...)
	got, err := section.Close(e, from, vars)
	if err != nil || got == nil {
		t.Errorf("%s: %v", what, err)
		return
	}
	if !slices.EqualFunc(got.List(), want, env.Same) {
		t.Errorf("%s:\n%swant\n%s", what, brief(got.List()), brief(want))
	}
	if got.Len() != len(want) {
		t.Errorf("%s: %d declarations", what, got.Len())
	}
	// Each is found by its name, and what went isn't.
	for _, d := range want {
		if found, ok := got.Find(d.Name); !ok || !env.Same(found, d) {
			t.Errorf("%s: %s isn't found", what, d.Name)
		}
	}
	for _, d := range l {
		_, ok := got.Find(d.Name)
		if ok != slices.ContainsFunc(want, func(w api.Decl) bool { return w.Name == d.Name }) {
			t.Errorf("%s: %s: found %v", what, d.Name, ok)
		}
	}
	if !slices.EqualFunc(e.List(), l, env.Same) {
		t.Errorf("%s: the Env is changed", what)
	}
}

// fails holds that an Env can't be closed, because of a declaration.
func fails(t *testing.T, what string, l []api.Decl, from int, vars []api.Decl, name string) {
	t.Helper()
	e := of(t, l...)
	got, err := section.Close(e, from, vars)
	var number api.Errno
	if got != nil || !errors.Is(err, api.ErrLarge) || !errors.As(err, &number) || number != api.ErrLarge {
		t.Errorf("%s: %v, %v", what, got, err)
		return
	}
	if text := err.Error(); text != "section: "+strconv.Quote(name)+": let go of variables: error 13" {
		t.Errorf("%s: %s", what, text)
	}
	if !slices.EqualFunc(e.List(), l, env.Same) {
		t.Errorf("%s: the Env is changed", what)
	}
}

// uses holds what a term uses.
func uses(t *testing.T, what string, e *env.Env, x *api.Term, want string) {
	t.Helper()
	if got := strings.Join(section.Uses(e, x), " "); got != want {
		t.Errorf("%s: uses %q, want %q", what, got, want)
	}
}

// needs holds what terms need.
func needs(t *testing.T, what string, e *env.Env, vars []api.Decl, l []*api.Term, want string) {
	t.Helper()
	if got := strings.Join(section.Needs(e, vars, l...), " "); got != want {
		t.Errorf("%s: needs %q, want %q", what, got, want)
	}
}

// ground are declarations of each kind, that use one another.
func ground() []api.Decl {
	return decls(
		"fam nat : Type0 | o : nat | s : nat -> nat",
		"A : Type0", "x : A", "f : A -> nat", "B : nat -> Type0",
		"one : nat := s o",
		"y : B one",
		"d : A := x",
		"g : nat := f d",
		"z : B g",
		"fam t : nat -> Type0 | leaf : t one | node : pi n : nat , A -> t n",
		"fam u : Type0 | mk : u",
		"by : Type1 := let k : Type1 := Type0 in k -> u",
		"r : nat -> u := nat.rec@0 ( fun n : nat => u ) mk ( fun n : nat => fun k : u => k )",
		"q : Type0 := A.rec@3",
	)
}

func TestP20_1Uses(t *testing.T) {
	e := of(t, ground()...)
	for text, want := range map[string]string{
		"Type3":                          "",
		"pi A : Type0 , A":               "",
		"fun nat : Type0 => nat":         "",
		"nat":                            "nat",
		"o":                              "nat o",
		"s":                              "nat s",
		"A":                              "A",
		"x":                              "A x",
		"x A x":                          "A x",
		"f":                              "A f nat",
		"one":                            "nat o one s",
		"y":                              "B nat o one s y",
		"d":                              "A d x",
		"g":                              "A d f g nat x",
		"z":                              "A B d f g nat x z",
		"t":                              "A nat o one s t",
		"leaf":                           "A leaf nat o one s t",
		"node":                           "A nat node o one s t",
		"u":                              "u",
		"mk":                             "mk u",
		"by":                             "by u",
		"r":                              "mk nat r u",
		"nat.rec@0":                      "nat",
		"nat.rec@9":                      "nat",
		"t.rec@1":                        "A nat o one s t",
		"u.rec":                          "u",
		"by.rec":                         "by u",
		"q":                              "A q",
		"no":                             "no",
		"no.rec":                         "no",
		"no.rec.rec":                     "no.rec",
		"nat.rec.rec":                    "nat.rec",
		"rec":                            "rec",
		"x.rec.y":                        "x.rec.y",
		"no no Zo zo":                    "Zo no zo",
		"pi v : no , v":                  "no",
		"pi v : Type0 , no":              "no",
		"fun v : no => v":                "no",
		"fun v : Type0 => no":            "no",
		"let v : no := Type0 in v":       "no",
		"let v : Type0 := no in v":       "no",
		"let v : Type1 := Type0 in no v": "no",
		"let v : by := x in s":           "A by nat s u x",
		"no a.b a":                       "a a.b no",
	} {
		uses(t, text, e, parsed(text), want)
	}
	uses(t, "nil", e, nil, "")
	uses(t, "of an empty Env", env.New(), parsed("x nat.rec@1"), "nat x")
	// It need not be closed.
	uses(t, "free", e, app(variable(3), constant("x")), "A x")
}

// What uses itself, or what comes behind it, comes to an end.
func TestP20_1UsesRound(t *testing.T) {
	e := of(t, decls("a : b", "b : Type0 := c", "c : c a", "fam f : g | h : a", "g : f", "i : i")...)
	for text, want := range map[string]string{"a": "a b c", "b": "a b c", "c": "a b c", "f": "a b c f g", "g": "a b c f g", "h": "a b c h", "i": "i", "i a": "a b c i"} {
		uses(t, text, e, parsed(text), want)
	}
	// It hangs on how far the Env goes.
	uses(t, "cut", e.Cut(1), constant("a"), "a b")
	uses(t, "cut", e.Cut(2), constant("a"), "a b c")
}

// Only a family has constructors; each has the terms that it has, whatever its Kind.
func TestP20_1UsesKinds(t *testing.T) {
	for _, kind := range []int{api.DAxiom, api.DDef, api.DFamily, api.DCon, 0, 5, -1} {
		d := api.Decl{Kind: kind, Name: "a", Type: constant("b"), Value: constant("c"), Of: "k", Family: api.Family{Cons: []api.Con{{Name: "m", Type: constant("d")}, {Name: "n", Type: constant("e")}}}}
		want := "a b c"
		if kind == api.DFamily {
			want = "a b c d e"
		}
		uses(t, strconv.Itoa(kind), of(t, d), constant("a"), want)
	}
}

// What is no term has no names.
func TestP20_1UsesOfNoTerm(t *testing.T) {
	wrong := []*api.Term{app(constant("b"), nil), app(constant("b"), sort(10)), {Kind: api.TApp, N: 1, A: constant("b"), B: constant("b")}, constant("fun"), {Kind: api.TConst, Name: "b", N: 1}, app(constant("b"), variable(100001)), {}}
	for i, x := range wrong {
		e := of(t, decl("b : Type0"), api.Decl{Kind: api.DDef, Name: "a", Type: constant("c"), Value: x},
			api.Decl{Kind: api.DFamily, Name: "f", Type: sort(0), Family: api.Family{Cons: []api.Con{{Name: "m", Type: x}, {Name: "n", Type: constant("d")}}}})
		what := "row " + strconv.Itoa(i)
		uses(t, what, e, x, "")
		uses(t, what, e, constant("a"), "a c")
		uses(t, what, e, constant("f"), "d f")
		needs(t, what, e, decls("b : Type0"), []*api.Term{x, x}, "")
		needs(t, what, e, append(decls("c : Type0", "d : Type0"), api.Decl{Name: "e", Type: x}), []*api.Term{x, constant("f"), constant("e")}, "d e")
	}
}

func TestP20_1Needs(t *testing.T) {
	l := ground()
	e := of(t, l...)
	vars := named(l, "A", "x", "f", "B", "y", "z")
	for text, want := range map[string]string{
		"Type0": "", "nat": "", "o": "", "one": "", "u": "", "mk": "", "by": "", "r": "", "no": "",
		"A": "A", "x": "A x", "f": "A f", "B": "B", "y": "B y", "d": "A x", "g": "A x f", "z": "A x f B z",
		"t": "A", "leaf": "A", "node": "A", "t.rec@2": "A", "A.rec": "A", "q": "A",
		"y x": "A x B y", "fun v : g => v": "A x f", "pi A : Type0 , A": "",
	} {
		needs(t, text, e, vars, []*api.Term{parsed(text)}, want)
	}
	needs(t, "of several", e, vars, []*api.Term{parsed("y"), nil, parsed("o"), parsed("d")}, "A x B y")
	needs(t, "of none", e, vars, nil, "")
	needs(t, "of nil", e, vars, []*api.Term{nil}, "")
	needs(t, "no variables", e, nil, []*api.Term{parsed("z")}, "")
	needs(t, "no variables", e, []api.Decl{}, []*api.Term{parsed("z")}, "")
	needs(t, "in their order", e, named(l, "z", "f", "B", "x", "A"), []*api.Term{parsed("y"), parsed("g")}, "f B x A")
	needs(t, "some", e, named(l, "f", "A"), []*api.Term{parsed("d"), parsed("d")}, "A")
	needs(t, "any", e, named(l, "mk", "nat", "d", "leaf", "one", "g"), []*api.Term{parsed("z"), parsed("t.rec@1")}, "nat d one g")
}

// What a variable's type uses is needed as well, though the Env doesn't have the variable, or has it otherwise.
func TestP20_1NeedsOfTheirTypes(t *testing.T) {
	e := of(t, decls("k : Type0", "h : Type0 := v", "w : k")...)
	vars := decls("v : Type0", "w : v", "a : w", "b : a h", "c : Type0", "k : c", "i : i", "j : m", "m : j")
	for text, want := range map[string]string{"v": "v", "w": "v w c k", "a": "v w a c k", "b": "v w a b c k", "c": "c", "k": "c k", "h": "v", "i": "i", "j": "j m", "m": "j m", "b.rec": "v w a b c k", "no": ""} {
		needs(t, text, e, vars, []*api.Term{parsed(text)}, want)
	}
	needs(t, "in any order", e, decls("b : a", "a : v", "v : Type0", "c : b"), []*api.Term{parsed("b")}, "b a v")
	needs(t, "of an empty Env", env.New(), vars, []*api.Term{parsed("b")}, "v w a b")
	needs(t, "without a type", env.New(), []api.Decl{{Name: "a"}, {Name: "b", Type: app(constant("a"), nil)}, decl("c : b")}, []*api.Term{parsed("c")}, "b c")
	needs(t, "values don't count", env.New(), decls("a : Type0", "b : Type1 := a"), []*api.Term{parsed("b")}, "b")
	needs(t, "nor constructors", env.New(), decls("a : Type0", "fam b : Type1 | c : a"), []*api.Term{parsed("b")}, "b")
}

// One that stands in the row twice is told twice.
func TestP20_1NeedsTwice(t *testing.T) {
	e := of(t, decls("a : Type0", "b : Type0")...)
	needs(t, "twice", e, decls("a : Type0", "b : Type0", "a : c", "c : Type0"), []*api.Term{parsed("a")}, "a a c")
}
