package posit_test

import (
	"math/rand"
	"strconv"
	"testing"

	"vademecum/api"
	"vademecum/env"
	"vademecum/infer"
	"vademecum/posit"
	"vademecum/recur"
)

// stands tells how often the family f, or its recursor, is in a term.
func stands(t *api.Term) int {
	if t == nil {
		return 0
	}
	n := stands(t.A) + stands(t.B) + stands(t.C)
	if t.Name == "f" || t.Name == "f.rec" {
		n++
	}
	return n
}

// In what may be, the family stands at the end of each constructor, and once in each argument that is Deep: there recursors see it, and nowhere else it is.
func TestP17_3WhereTheFamilyStands(t *testing.T) {
	m := maker{rand.New(rand.NewSource(173)), 3}
	asked := 0
	for range 6000 {
		params, indices := m.r.Intn(4), m.r.Intn(3)
		typ := m.typ(params + indices)
		con := api.Con{Name: "c", Type: m.con(typ, params, indices).number(nil)}
		f, err := posit.Shape("f", params, typ.number(nil), []api.Con{con})
		if err != nil {
			continue
		}
		asked++
		d := api.Decl{Kind: api.DFamily, Name: "f", Type: typ.number(nil), Family: f}
		args, ends := recur.Args(d, 0)
		deep := 0
		for i, a := range args {
			_, _, ok := recur.Deep(d, a)
			if plain := posit.Plain("f", params, params+i, a); plain != ok || plain != (stands(a) == 1) || !plain && stands(a) > 0 {
				t.Fatalf("%s, argument %d: Plain %v, Deep %v", dump(con.Type), i, plain, ok)
			}
			if ok {
				deep++
			}
		}
		if stands(con.Type) != deep+1 || len(ends) != indices || f.Indices != indices {
			t.Fatalf("%s: %d times in it, %d arguments that are Deep, %d indices", dump(con.Type), stands(con.Type), deep, len(ends))
		}
	}
	if asked < 2000 {
		t.Errorf("only %d may be", asked)
	}
}

// declared is an Env with a family and its constructors, let in whether they may be or not.
func declared(t *testing.T, e *env.Env, name string, a *api.Term, f api.Family) *env.Env {
	t.Helper()
	l := []api.Decl{{Kind: api.DFamily, Name: name, Type: a, Family: f}}
	for _, c := range f.Cons {
		l = append(l, api.Decl{Kind: api.DCon, Name: c.Name, Type: c.Type, Of: name})
	}
	for _, d := range l {
		more, err := e.Add(d)
		if err != nil {
			t.Fatal(err)
		}
		e = more
	}
	return e
}

// A family that eats itself is refused: by its recursor there would be something of a family without constructors.
func TestP17_3EatsItself(t *testing.T) {
	l := cons(t, "c", "(f -> void) -> f")
	refused(t, "it eats itself", "f", 0, sort(0), l, api.ErrPos)
	e := declared(t, env.New(), "void", sort(0), api.Family{})
	e = declared(t, e, "f", sort(0), api.Family{Cons: l})
	eats := of(t, "fun x : f => f.rec@0 (fun y : f => f -> void) (fun g : (f -> void) => g) x x", "")
	if got := inferred(t, e, app(eats, app(constant("c"), eats))); dump(got) != dump(constant("void")) {
		t.Errorf("nothing of void, but of %s", dump(got))
	}
}

// inferred is the type of a term.
func inferred(t *testing.T, e *env.Env, x *api.Term) *api.Term {
	t.Helper()
	a, _, err := infer.Infer(e, nil, x, api.MaxFuel)
	if err != nil {
		t.Fatal(err)
	}
	return a
}

// typed are families that may be, of whom all types are such: by name, parameters, type, constructors.
var typed = []shape{
	{"", "void", 0, "Type0", nil},
	{"", "nat", 0, "Type0", list("o", "nat", "s", "nat -> nat")},
	{"", "list", 1, "Type0 -> Type0", list("nil", "pi A : Type0, list A", "cons", "pi A : Type0, A -> list A -> list A")},
	{"", "vec", 1, "Type0 -> nat -> Type0", list("vnil", "pi A : Type0, vec A o", "vcons", "pi A : Type0, pi n : nat, A -> vec A n -> vec A (s n)")},
	{"", "tree", 0, "Type0", list("leaf", "tree", "node", "nat -> (nat -> list nat -> tree) -> tree")},
	{"", "eq", 2, "pi A : Type0, A -> A -> Type0", list("refl", "pi A : Type0, pi x : A, eq A x x")},
	{"", "acc", 2, "pi A : Type0, (A -> A -> Type0) -> A -> Type0", list("intro", "pi A : Type0, pi R : (A -> A -> Type0), pi x : A, (pi y : A, R y x -> acc A R y) -> acc A R x")},
	{"", "some", 2, "pi A : Type0, (A -> Type0) -> Type0", list("pair", "pi A : Type0, pi P : (A -> Type0), pi x : A, P x -> some A P")},
	{"", "even", 0, "nat -> Type0", list("e.o", "even o", "e.s", "pi n : nat, even n -> even (s (s n))")},
	{"", "set", 0, "Type1", list("sup", "pi A : Type0, (A -> set) -> set")},
}

// What Shape tells is what recursors are made of: their types are types.
func TestP17_3Recursors(t *testing.T) {
	e := env.New()
	for _, c := range typed {
		a := of(t, c.typ, "")
		f, err := posit.Shape(c.name, c.params, a, cons(t, c.cons...))
		if err != nil {
			t.Fatalf("%s: %v", c.name, err)
		}
		e = declared(t, e, c.name, a, f)
		for into := range 3 {
			what := c.name + ".rec@" + strconv.Itoa(into)
			if _, _, err := infer.Sort(e, nil, inferred(t, e, rec(c.name+".rec", into)), api.MaxFuel); err != nil {
				t.Errorf("%s: %v", what, err)
			}
		}
	}
}
