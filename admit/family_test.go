package admit_test

import (
	"strconv"
	"strings"
	"testing"

	"vademecum/api"
)

// shape: a family as texts, its constructors as name, type, name, type .., and how much fuel it takes.
type shape struct {
	what   string
	name   string
	params int
	typ    string
	cons   []string
	took   int
}

// call is what is to be let in.
func (c shape) call(t *testing.T) call {
	t.Helper()
	return family(t, c.name, c.params, c.typ, c.cons...)
}

// list is a row of texts.
func list(l ...string) []string { return l }

func TestP18_2Families(t *testing.T) {
	e := known(t)
	for _, c := range []shape{
		{"no constructors", "x", 0, "Type0", nil, 1},
		{"the greatest sort there is", "x", 0, "Type8", nil, 1},
		{"a truth", "x", 0, "Type0", list("c", "x"), 1 + 1},
		{"numbers", "x", 0, "Type0", list("c", "x", "e", "x -> x"), 1 + 1 + (3 + 1)},
		{"names with points", "a.x", 0, "Type0", list("a.c", "a.x", "a.x.c", "a.x -> a.x"), 1 + 1 + (3 + 1)},
		{"a parameter", "x", 1, "Type0 -> Type0", list("c", "pi A : Type0, x A"), 3 + 6},
		{"an index", "x", 0, "nat -> Type0", list("c", "x o"), 3 + 4},
		// Behind the parameter e has A, which takes 1, and x A, which takes 4.
		{"lists", "x", 1, "Type0 -> Type0", list("c", "pi A : Type0, x A", "e", "pi A : Type0, A -> x A -> x A"), 3 + 6 + (13 + 5)},
		{"under a product", "x", 0, "Type0", list("c", "(nat -> x) -> x"), 1 + (5 + 3)},
		{"a part on another one", "x", 0, "Type0", list("c", "pi n : nat, p n -> x"), 1 + (8 + 1 + 4)},
		{"a part by a definition", "x", 0, "Type0", list("c", "n -> x"), 1 + (3 + 1)},
		{"equality", "x", 2, "pi A : Type0, A -> A -> Type0", list("c", "pi A : Type0, pi a : A, x A a a"), 7 + 14},
		{"a sum", "x", 2, "pi A : Type0, (A -> Type0) -> Type0", list("c", "pi A : Type0, pi P : (A -> Type0), pi a : A, P a -> x A P"), 7 + (20 + 1 + 4)},
	} {
		takes(t, c.what, e, c.call(t), c.took)
	}
}

// Whatever the parameters are, they don't have to be below the family's sort; all other parts do, also those that could be parameters.
func TestP18_2Sorts(t *testing.T) {
	e := known(t)
	for of := range 9 {
		for part := range 9 {
			// A type of sort part: 1 up to Type7, as Type8 is of Type9.
			typ := "nat"
			if part > 0 {
				typ = "Type" + strconv.Itoa(part-1)
			}
			into := "Type" + strconv.Itoa(of)
			for _, c := range []call{
				family(t, "x", 0, into, "c", typ+" -> x"),
				family(t, "x", 0, into, "b", "x", "c", "nat -> ("+typ+") -> x"),
				family(t, "x", 0, into, "c", "("+typ+" -> nat) -> x"),
				family(t, "x", 0, into, "c", "("+typ+" -> x) -> x"),
				family(t, "x", 0, typ+" -> "+into, "c", "pi A : "+typ+", x A"),
				family(t, "x", 1, "nat -> "+typ+" -> "+into, "c", "pi n : nat, pi A : "+typ+", x n A"),
			} {
				if part <= of {
					allowed(t, "part", e, c, 300)
				} else if err := refused(t, "part", e, c, 300, api.ErrSort); err != nil && !strings.Contains(err.Error(), `"c"`) {
					t.Errorf("%v: %v", c, err)
				}
			}
			for _, c := range []call{
				family(t, "x", 1, typ+" -> "+into, "c", "pi A : "+typ+", x A"),
				family(t, "x", 2, "nat -> "+typ+" -> "+into, "c", "pi n : nat, pi A : "+typ+", nat -> x n A"),
				family(t, "x", 0, typ+" -> "+into),
			} {
				allowed(t, "parameter", e, c, 300)
			}
		}
	}
}

// The sort of a part counts as it comes out, not as a part of it does.
func TestP18_2SortsOfParts(t *testing.T) {
	e := known(t)
	for _, c := range []struct {
		what string
		call call
		err  api.Errno
	}{
		{"a parameter's type", family(t, "x", 1, "Type0 -> Type0", "c", "pi A : Type0, A -> x A"), 0},
		{"a parameter's type, above", family(t, "x", 1, "Type1 -> Type0", "c", "pi A : Type1, A -> x A"), api.ErrSort},
		{"a parameter's type, as great", family(t, "x", 1, "Type1 -> Type1", "c", "pi A : Type1, A -> x A"), 0},
		{"types under a product", family(t, "x", 0, "Type0", "c", "(nat -> Type0) -> x"), api.ErrSort},
		{"what is none of a type", family(t, "x", 0, "Type0", "c", "p o -> x"), 0},
		{"a let", family(t, "x", 0, "Type0", "c", "(let A : Type1 := nat in A) -> x"), 0},
		{"a function applied", family(t, "x", 0, "Type0", "c", "(fun A : Type3 => nat) Type2 -> x"), 0},
		{"a function of a greater sort applied", family(t, "x", 0, "Type0", "c", "(fun A : Type1 => A) nat -> x"), api.ErrSort},
		{"a definition of a greater sort", family(t, "x", 0, "Type0", "c", "kind -> x"), api.ErrSort},
		{"the family itself", family(t, "x", 0, "Type0", "c", "x -> (nat -> x) -> x"), 0},
		{"the family itself, of a part", family(t, "x", 0, "Type1", "c", "pi A : Type0, (A -> x) -> x"), 0},
		{"the family itself, under a greater one", family(t, "x", 0, "Type1", "c", "(Type1 -> x) -> x"), api.ErrSort},
		{"lists of types", family(t, "x", 0, "Type1", "c", "(nat -> Type0) -> x -> x"), 0},
	} {
		if c.err != api.OK {
			refused(t, c.what, e, c.call, 300, c.err)
		} else {
			allowed(t, c.what, e, c.call, 300)
		}
	}
}

func TestP18_2Refused(t *testing.T) {
	e := known(t)
	for _, c := range []struct {
		what string
		call call
		err  api.Errno
		took int
	}{
		{"a family's type that is none", family(t, "x", 0, "Type9"), api.ErrSort, 1},
		{"behind a product", family(t, "x", 0, "nat -> Type9"), api.ErrSort, 3},
		{"a product of no type", family(t, "x", 0, "o -> Type0"), api.ErrSort, 2},
		{"of a name that isn't there", family(t, "x", 0, "nowhere -> Type0"), api.ErrName, 2},
		{"a constructor's index", family(t, "x", 0, "nat -> Type0", "c", "x nat"), api.ErrType, 3 + 4},
		{"the second constructor's", family(t, "x", 0, "nat -> Type0", "c", "x o", "e", "x y", "f", "x nat"), api.ErrType, 3 + 4 + 4 + 4},
		{"a constructor's name in its index", family(t, "x", 0, "nat -> Type0", "c", "x c"), api.ErrName, 3 + 3},
		{"a constructor's name in its part", family(t, "x", 0, "Type0", "c", "p c -> x"), api.ErrName, 1 + 4},
		// The constructors ahead aren't there either.
		{"another one's name", family(t, "x", 0, "Type0", "c", "x", "e", "p c -> x"), api.ErrName, 1 + 1 + 4},
		{"another one's name, as a type", family(t, "x", 0, "Type0", "c", "x", "e", "c -> x"), api.ErrName, 1 + 1 + 2},
		{"another one's name, as an index", family(t, "x", 0, "nat -> Type0", "c", "x o", "e", "x c"), api.ErrName, 3 + 4 + 3},
		{"a constructor's name in the family's type", family(t, "x", 0, "c -> Type0", "c", "x o"), api.ErrName, 2},
		{"a part that is no type", family(t, "x", 0, "Type0", "c", "o -> x"), api.ErrSort, 1 + 2},
		{"a part that is no function's", family(t, "x", 0, "Type0", "c", "nat o -> x"), api.ErrFun, 1 + 3},
		// All of the type is asked ahead of the parts.
		{"a part above the sort", family(t, "x", 0, "Type0", "c", "Type0 -> x"), api.ErrSort, 1 + 3 + 1},
		{"the second part above", family(t, "x", 0, "Type0", "c", "nat -> Type0 -> x"), api.ErrSort, 1 + 5 + 2},
		{"a part above, then no type", family(t, "x", 0, "Type0", "c", "Type0 -> nowhere -> x"), api.ErrName, 1 + 4},
		{"a part above, then the next constructor", family(t, "x", 0, "Type0", "c", "Type0 -> x", "e", "nowhere -> x"), api.ErrSort, 1 + 3 + 1},
		{"a part above, in front of the next", family(t, "x", 0, "Type0", "c", "Type0 -> Type0 -> x"), api.ErrSort, 1 + 5 + 1},
		{"a parameter's parts", family(t, "x", 1, "Type0 -> Type0", "c", "pi A : Type0, A A -> x A"), api.ErrFun, 3 + 5},
	} {
		fails(t, c.what, e, c.call, c.err, c.took)
	}
}

// Families that may not be are told by posit's numbers, whatever fuel there is.
func TestP18_2MayNotBe(t *testing.T) {
	e := known(t)
	for _, c := range []struct {
		what string
		call call
		err  api.Errno
	}{
		{"it eats itself", family(t, "x", 0, "Type0", "c", "(x -> void) -> x"), api.ErrPos},
		{"it is an index", family(t, "x", 0, "Type0 -> Type0", "c", "x (x nat)"), api.ErrPos},
		{"in another family", family(t, "x", 0, "Type0", "c", "list x -> x"), api.ErrPos},
		{"of no sort", family(t, "x", 0, "nat"), api.ErrPos},
		{"a definition of a sort", family(t, "x", 0, "kind"), api.ErrPos},
		{"its recursor", family(t, "x", 0, "Type0", "c", "(x.rec@0 -> nat) -> x"), api.ErrPos},
		{"it ends in another one", family(t, "x", 0, "Type0", "c", "nat"), api.ErrPos},
		{"another parameter", family(t, "x", 1, "Type0 -> Type0", "c", "pi A : Type1, x A"), api.ErrPos},
		{"parameters that aren't there", family(t, "x", 2, "Type0 -> Type0"), api.ErrPos},
		{"parameters below 0", family(t, "x", -1, "Type0"), api.ErrForm},
		{"too many parameters", family(t, "x", 13, "Type0"), api.ErrForm},
		{"its own name", family(t, "x", 0, "Type0", "x", "x"), api.ErrForm},
		{"a name twice", family(t, "x", 0, "Type0", "c", "x", "e", "x", "c", "x"), api.ErrForm},
		{"variables around", call{kind: api.DFamily, name: "x", a: pi(sort(0), variable(1))}, api.ErrForm},
		{"variables around a constructor", call{kind: api.DFamily, name: "x", a: sort(0), cons: []api.Con{{Name: "c", Type: pi(variable(0), constant("x"))}}}, api.ErrForm},
	} {
		for _, fuel := range []int{-1, 0, 1, 3, 500} {
			refused(t, c.what, e, c.call, fuel, c.err)
		}
		refused(t, c.what, filled(t, e, api.MaxDecls), c.call, 500, c.err)
	}
}

// An error tells whose it is.
func TestP18_2Whose(t *testing.T) {
	e := known(t)
	for _, c := range []struct {
		call call
		want string
	}{
		{axiom(t, "x", "nowhere"), `admit: "x": its type: infer: `},
		{def(t, "x", "nowhere", "o"), `admit: "x": its type: infer: `},
		{def(t, "x", "nat", "nowhere"), `admit: "x": its value: infer: `},
		{axiom(t, "y", "nat"), `admit: "y": isn't let in: env: "y": `},
		{family(t, "x", 0, "nowhere -> Type0"), `admit: "x": its type: infer: `},
		{family(t, "x", 0, "Type0", "c", "nowhere -> x"), `admit: "c": its type: infer: `},
		{family(t, "x", 0, "Type0", "c", "x", "e", "nat -> Type0 -> x"), `admit: "e": its part 1 is of a sort above the family's: `},
		{family(t, "x", 0, "Type0", "c", "nat"), `admit: "x": isn't let in: posit: "c": `},
		{family(t, "x", 0, "Type0", "y", "x"), `admit: "x": isn't let in: env: "y": `},
	} {
		_, err := c.call.on(e, 100)
		if err == nil || !strings.HasPrefix(err.Error(), c.want) {
			t.Errorf("%v: %v, want %s", c.call, err, c.want)
		}
	}
	// A part is asked again, behind the type: only then fuel may end there.
	_, err := family(t, "x", 0, "Type0", "c", "nat -> x").on(e, 4)
	if want := `admit: "c": its part 0: infer: `; err == nil || !strings.HasPrefix(err.Error(), want) {
		t.Errorf("%v, want %s", err, want)
	}
}
