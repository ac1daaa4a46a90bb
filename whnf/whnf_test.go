package whnf_test

import (
	"errors"
	"math"
	"strconv"
	"strings"
	"testing"

	"vademecum/api"
	"vademecum/env"
	"vademecum/lex"
	"vademecum/syntax"
	"vademecum/whnf"
)

func sort(n int) *api.Term { return &api.Term{Kind: api.TSort, N: n} }

func variable(n int) *api.Term { return &api.Term{Kind: api.TVar, N: n} }

func constant(name string) *api.Term { return &api.Term{Kind: api.TConst, Name: name} }

func rec(name string, n int) *api.Term { return &api.Term{Kind: api.TConst, Name: name, N: n} }

func pi(a, b *api.Term) *api.Term { return &api.Term{Kind: api.TPi, A: a, B: b} }

func lam(a, b *api.Term) *api.Term { return &api.Term{Kind: api.TLam, A: a, B: b} }

func app(a, b *api.Term) *api.Term { return &api.Term{Kind: api.TApp, A: a, B: b} }

func let(a, b, c *api.Term) *api.Term { return &api.Term{Kind: api.TLet, A: a, B: b, C: c} }

// apply is a term applied to others.
func apply(f *api.Term, l ...*api.Term) *api.Term {
	for _, t := range l {
		f = app(f, t)
	}
	return f
}

// dump is all that a term has, as a text: two texts are the same just where the terms are.
func dump(t *api.Term) string {
	var text strings.Builder
	var add func(t *api.Term)
	add = func(t *api.Term) {
		if t == nil {
			text.WriteString("-")
			return
		}
		text.WriteString("(" + strconv.Itoa(t.Kind) + " " + strconv.Itoa(t.N) + " " + strconv.Quote(t.Name))
		add(t.A)
		add(t.B)
		add(t.C)
		text.WriteString(")")
	}
	add(t)
	return text.String()
}

// around: the names of the variables around the terms that tests say, the innermost one last.
var around = []string{"u", "v"}

// of is the term of a text, under the variables around.
func of(t *testing.T, text string) *api.Term {
	t.Helper()
	words, err := lex.Words(text)
	if err != nil {
		t.Fatalf("%q: %v", text, err)
	}
	x, rest, err := syntax.Parse(words, around)
	if err != nil || len(rest) > 0 {
		t.Fatalf("%q: %v, %q", text, err, rest)
	}
	return x
}

// shown is a term as a text, under the variables around.
func shown(x *api.Term) string {
	if x == nil {
		return "nothing"
	}
	if text := syntax.Print(lam(sort(0), lam(sort(0), x))); text != "" {
		return text
	}
	return dump(x)
}

// family is a family, its constructors told as name, type, name, type ..
func family(t *testing.T, name string, params, indices int, typ string, cons ...string) api.Decl {
	t.Helper()
	d := api.Decl{Kind: api.DFamily, Name: name, Type: of(t, typ), Family: api.Family{Params: params, Indices: indices}}
	for i := 0; i < len(cons); i += 2 {
		d.Family.Cons = append(d.Family.Cons, api.Con{Name: cons[i], Type: of(t, cons[i+1])})
	}
	return d
}

// families are families of each shape: with parameters, indices, no constructors, arguments that are Deep under products, several of them.
func families(t *testing.T) []api.Decl {
	return []api.Decl{
		family(t, "nat", 0, 0, "Type0", "o", "nat", "s", "nat -> nat"),
		family(t, "no", 0, 0, "Type0"),
		family(t, "bin", 0, 0, "Type0", "leaf", "bin", "fork", "bin -> bin -> bin"),
		family(t, "w", 0, 0, "Type0", "node", "(nat -> w) -> w"),
		family(t, "list", 1, 0, "Type0 -> Type0", "nil", "pi A : Type0, list A", "cons", "pi A : Type0, A -> list A -> list A"),
		family(t, "vec", 1, 1, "Type0 -> nat -> Type0", "vnil", "pi A : Type0, vec A o", "vcons", "pi A : Type0, pi n : nat, A -> vec A n -> vec A (s n)"),
		family(t, "eq", 2, 1, "pi A : Type0, A -> A -> Type0", "refl", "pi A : Type0, pi x : A, eq A x x"),
		family(t, "q", 1, 2, "Type0 -> nat -> nat -> Type0", "deep", "pi A : Type0, pi n : nat, (pi x : A, pi m : nat, q A m n) -> q A n n"),
	}
}

// withFamilies is an Env with families and their constructors.
func withFamilies(t *testing.T, l ...api.Decl) *env.Env {
	t.Helper()
	e := env.New()
	for _, d := range l {
		e = with(t, e, d)
		for _, c := range d.Family.Cons {
			e = with(t, e, api.Decl{Kind: api.DCon, Name: c.Name, Type: c.Type, Of: d.Name})
		}
	}
	return e
}

// with is an Env with one declaration more.
func with(t *testing.T, e *env.Env, d api.Decl) *env.Env {
	t.Helper()
	more, err := e.Add(d)
	if err != nil {
		t.Fatal(err)
	}
	return more
}

// definitions are definitions by name and value.
var definitions = []string{
	"one", "s o",
	"two", "s one",
	"id", "fun x : nat => x",
	"also", "id",
	"plus", "fun a : nat => fun b : nat => nat.rec@0 (fun x : nat => nat) b (fun x : nat => fun y : nat => s y) a",
	"times", "fun a : nat => fun b : nat => nat.rec@0 (fun x : nat => nat) o (fun x : nat => fun y : nat => plus b y) a",
	"power", "fun a : nat => fun b : nat => nat.rec@0 (fun x : nat => nat) one (fun x : nat => fun y : nat => times a y) b",
	"before", "nat.rec@0 (fun x : nat => nat) o (fun x : nat => fun y : nat => x)",
	"nofun", "Type0",
}

// known is the Env of the tests: families, axioms, definitions.
func known(t *testing.T) *env.Env {
	t.Helper()
	e := withFamilies(t, families(t)...)
	for _, name := range []string{"a", "f", "P", "z", "st"} {
		e = with(t, e, api.Decl{Kind: api.DAxiom, Name: name, Type: of(t, "nat")})
	}
	for i := 0; i < len(definitions); i += 2 {
		e = with(t, e, api.Decl{Kind: api.DDef, Name: definitions[i], Type: of(t, "nat"), Value: of(t, definitions[i+1])})
	}
	return e
}

// row: what is made of a term: what it comes to, how much fuel that takes, and whether a step is told.
type row struct {
	text, want string
	took       int
	more       bool
}

// steps holds Step against rows: with more fuel than is taken, with just as much, and with less.
func steps(t *testing.T, rows []row) {
	t.Helper()
	e := known(t)
	for _, c := range rows {
		x := of(t, c.text)
		for _, left := range []int{0, 1, 7, api.MaxFuel, math.MaxInt - c.took} {
			got, fuel, more, err := whnf.Step(e, x, c.took+left)
			if dump(got) != dump(of(t, c.want)) || fuel != left || more != c.more || err != nil {
				t.Errorf("%s: %s, %d more than %d, %v, %v", c.text, shown(got), fuel, left, more, err)
			}
		}
		for less := 1; less <= c.took; less++ {
			got, fuel, more, err := whnf.Step(e, x, c.took-less)
			if got != nil || fuel != 0 || more || !errors.Is(err, api.ErrFuel) {
				t.Errorf("%s: with %d less: %s, %d, %v, %v", c.text, less, shown(got), fuel, more, err)
			}
		}
	}
}

func TestP14_1NoStep(t *testing.T) {
	steps(t, []row{
		{"Type3", "Type3", 0, false},
		{"v", "v", 0, false},
		{"v u", "v u", 0, false},
		{"a", "a", 0, false},
		{"a (id o) one", "a (id o) one", 0, false},
		{"nat", "nat", 0, false},
		{"o", "o", 0, false},
		{"s one", "s one", 0, false},
		{"s one one", "s one one", 0, false},
		{"nowhere", "nowhere", 0, false},
		{"nowhere one", "nowhere one", 0, false},
		{"pi x : one, id x", "pi x : one, id x", 0, false},
		{"(pi x : nat, x) o", "(pi x : nat, x) o", 0, false},
		{"fun x : one => id x", "fun x : one => id x", 0, false},
		{"Type0 one", "Type0 one", 0, false},
	})
}

func TestP14_1Function(t *testing.T) {
	steps(t, []row{
		{"(fun x : a => x) a", "a", 1, true},
		{"(fun x : a => x) v", "v", 1, true},
		{"(fun x : a => f x u v) o", "f o u v", 1, true},
		{"(fun x : a => o) one", "o", 1, true},
		// What is put in stays as it is, and so do types.
		{"(fun x : a => f x x) (id o)", "f (id o) (id o)", 1, true},
		{"(fun x : id one => x) o", "o", 1, true},
		{"(fun x : nowhere => x) o", "o", 1, true},
		// What is behind the first argument stays behind it.
		{"(fun x : a => f x) o one v", "f o one v", 1, true},
		{"(fun x : a => fun y : f x => f x y) u o", "(fun y : f u => f u y) o", 1, true},
		{"(fun x : a => fun y : a => x) (id v) u", "(fun y : a => id v) u", 1, true},
		{"(fun x : a => x) (fun x : a => x) o", "(fun x : a => x) o", 1, true},
		{"(fun x : a => x x) (fun x : a => x x)", "(fun x : a => x x) (fun x : a => x x)", 1, true},
		// Binders within.
		{"(fun x : a => pi y : x, let z : x := y in f x y z u) v", "pi y : v, let z : v := y in f v y z u", 1, true},
		{"(fun x : a => fun y : a => x) (fun y : a => f y v)", "fun y : a => fun y : a => f y v", 1, true},
		{"(fun x : a => one) o", "one", 1, true},
	})
}

func TestP14_1Let(t *testing.T) {
	steps(t, []row{
		{"let x : nat := one in f x x", "f one one", 1, true},
		{"let x : nat := v in f x u v", "f v u v", 1, true},
		{"let x : id one := id o in x", "id o", 1, true},
		{"let x : nat := one in o", "o", 1, true},
		{"(let x : nat := f in x) o one", "f o one", 1, true},
		{"(let x : nat := o in fun y : x => f x y) v", "(fun y : o => f o y) v", 1, true},
		{"let x : nat := o in let y : x := f x in f x y", "let y : o := f o in f o y", 1, true},
		{"(let x : nat := u in fun y : nat => x)", "fun y : nat => u", 1, true},
		{"let x : nat := fun y : a => f y v in fun y : a => x", "fun y : a => fun y : a => f y v", 1, true},
	})
}

func TestP14_1Definition(t *testing.T) {
	steps(t, []row{
		{"one", "s o", 1, true},
		{"two", "s one", 1, true},
		{"also", "id", 1, true},
		{"also one v", "id one v", 1, true},
		{"id one", "(fun x : nat => x) one", 1, true},
		{"nofun one u", "Type0 one u", 1, true},
		{"before one", "nat.rec@0 (fun x : nat => nat) o (fun x : nat => fun y : nat => x) one", 1, true},
	})
}

func TestP14_1Recursor(t *testing.T) {
	steps(t, []row{
		{"nat.rec@0 P z st o", "z", 1, true},
		{"nat.rec@4 P z st (s v)", "st v (nat.rec@4 P z st v)", 1, true},
		{"nat.rec@4 (P u) (z v) (st u v) (s (f u))", "st u v (f u) (nat.rec@4 (P u) (z v) (st u v) (f u))", 1, true},
		{"nat.rec@0 P z st (s one)", "st one (nat.rec@0 P z st one)", 1, true},
		{"nat.rec@0 P one st o", "one", 1, true},
		// What is behind the major.
		{"nat.rec@0 P z st o v one", "z v one", 1, true},
		{"nat.rec@0 P z st (s v) u one", "st v (nat.rec@0 P z st v) u one", 1, true},
		{"nat.rec@0 P (fun x : a => f x) st o v", "(fun x : a => f x) v", 1, true},
		// Parameters, indices.
		{"list.rec@0 u P z st (nil u)", "z", 1, true},
		{"list.rec@2 u P z st (cons u a v)", "st a v (list.rec@2 u P z st v)", 1, true},
		{"vec.rec@0 u P z st o (vnil u)", "z", 1, true},
		{"vec.rec@1 u P z st (s v) (vcons u v a z) f", "st v a z (vec.rec@1 u P z st v z) f", 1, true},
		{"eq.rec@3 u v P z v (refl u v)", "z", 1, true},
		// The parameters are the recursor's own, the indices aren't asked.
		{"list.rec@0 u P z st (cons v a o)", "st a o (list.rec@0 u P z st o)", 1, true},
		{"vec.rec@0 u P z st two (vcons v a a o)", "st a a o (vec.rec@0 u P z st a o)", 1, true},
		{"eq.rec@0 u a P z o (refl v f)", "z", 1, true},
		// Arguments that are Deep: several, under products.
		{"bin.rec@0 P z st leaf", "z", 1, true},
		{"bin.rec@0 P z st (fork u (fork leaf v))", "st u (fork leaf v) (bin.rec@0 P z st u) (bin.rec@0 P z st (fork leaf v))", 1, true},
		{"w.rec@0 P st (node (f v))", "st (f v) (fun n : nat => w.rec@0 P st (f v n))", 1, true},
		{"w.rec@0 (P u) (st v) (node (fun n : nat => u n))", "st v (fun n : nat => u n) (fun n : nat => w.rec@0 (P u) (st v) ((fun n : nat => u n) n))", 1, true},
		{"q.rec@1 u P st o o (deep v a f)", "st a f (fun x : u => fun m : nat => q.rec@1 u P st m a (f x m))", 1, true},
	})
}

func TestP14_1Major(t *testing.T) {
	steps(t, []row{
		// What the major takes is taken ahead of the step.
		{"nat.rec@0 P z st one", "st o (nat.rec@0 P z st o)", 2, true},
		{"nat.rec@0 P z st (id o)", "z", 3, true},
		{"nat.rec@0 P z st (also o)", "z", 4, true},
		{"nat.rec@0 P z st (id two) v", "st one (nat.rec@0 P z st one) v", 4, true},
		{"nat.rec@0 P z st (let x : nat := one in s x)", "st one (nat.rec@0 P z st one)", 2, true},
		{"vec.rec@0 u P z st o (id (vnil u))", "z", 3, true},
		{"nat.rec@0 P z st (nat.rec@0 P o st o)", "z", 2, true},
		{"nat.rec@0 P z st (nat.rec@0 P st o (nat.rec@0 P o st one))", "nat.rec@0 P z st (nat.rec@0 P st o (st o (nat.rec@0 P o st o)))", 2, false},
		{"nat.rec@0 P z st (nat.rec@0 P o st (nat.rec@0 P o st (id o)))", "z", 5, true},
		// The major is reduced at its head alone, and what is around it isn't.
		{"nat.rec@0 P z st (s (id o))", "st (id o) (nat.rec@0 P z st (id o))", 1, true},
		{"nat.rec@0 (id P) (id z) (id st) o", "id z", 1, true},
	})
}

func TestP14_1MajorStuck(t *testing.T) {
	steps(t, []row{
		{"nat.rec@0 P z st v", "nat.rec@0 P z st v", 0, false},
		{"nat.rec@0 P z st a", "nat.rec@0 P z st a", 0, false},
		{"nat.rec@0 P z st (f one)", "nat.rec@0 P z st (f one)", 0, false},
		{"nat.rec@0 P z st (fun x : nat => o)", "nat.rec@0 P z st (fun x : nat => o)", 0, false},
		{"nat.rec@0 P z st Type0", "nat.rec@0 P z st Type0", 0, false},
		{"nat.rec@0 P z st nat", "nat.rec@0 P z st nat", 0, false},
		{"nat.rec@0 P z st (id v)", "nat.rec@0 P z st v", 2, false},
		{"nat.rec@0 P z st (id v) one", "nat.rec@0 P z st v one", 2, false},
		{"nat.rec@3 (id P) (id z) one (id v) (id o)", "nat.rec@3 (id P) (id z) one v (id o)", 2, false},
		{"vec.rec@0 u P z st one (also v)", "vec.rec@0 u P z st one v", 3, false},
		{"nat.rec@0 P z st (nat.rec@0 P z st (nat.rec@0 P z st (id v)))", "nat.rec@0 P z st (nat.rec@0 P z st (nat.rec@0 P z st v))", 2, false},
		{"nat.rec@0 P z st (nat.rec@0 P f st o)", "nat.rec@0 P z st f", 1, false},
		{"nat.rec@0 P z st (nat.rec@0 P id st o (nat.rec@0 P a st o))", "nat.rec@0 P z st a", 4, false},
		// Constructors of another family, or applied to less or more than they have.
		{"nat.rec@0 P z st leaf", "nat.rec@0 P z st leaf", 0, false},
		{"nat.rec@0 P z st s", "nat.rec@0 P z st s", 0, false},
		{"nat.rec@0 P z st (o o)", "nat.rec@0 P z st (o o)", 0, false},
		{"nat.rec@0 P z st (s v v)", "nat.rec@0 P z st (s v v)", 0, false},
		{"nat.rec@0 P z st (one o)", "nat.rec@0 P z st (s o o)", 1, false},
		{"list.rec@0 u P z st nil", "list.rec@0 u P z st nil", 0, false},
		{"list.rec@0 u P z st (nil u u)", "list.rec@0 u P z st (nil u u)", 0, false},
		{"list.rec@0 u P z st (cons u a)", "list.rec@0 u P z st (cons u a)", 0, false},
		{"list.rec@0 u P z st (cons a (id v))", "list.rec@0 u P z st (cons a (id v))", 0, false},
		{"vec.rec@0 u P z st o vnil", "vec.rec@0 u P z st o vnil", 0, false},
		// Of no constructors there is none.
		{"no.rec@0 P v", "no.rec@0 P v", 0, false},
		{"no.rec@0 P o", "no.rec@0 P o", 0, false},
		{"no.rec@0 P (id v) a", "no.rec@0 P v a", 2, false},
	})
}

// Without a major there is nothing to be reduced, and without a family there is no major.
func TestP14_1NoMajor(t *testing.T) {
	steps(t, []row{
		{"nat.rec", "nat.rec", 0, false},
		{"nat.rec@0 P z one", "nat.rec@0 P z one", 0, false},
		{"vec.rec@0 u P z st (id o)", "vec.rec@0 u P z st (id o)", 0, false},
		{"eq.rec@0 u v P z (refl u v)", "eq.rec@0 u v P z (refl u v)", 0, false},
		{"no.rec@0 (id P)", "no.rec@0 (id P)", 0, false},
		{"nowhere.rec@0 one one one one", "nowhere.rec@0 one one one one", 0, false},
		{"a.rec@0 one one one one", "a.rec@0 one one one one", 0, false},
		{"id.rec@0 one one one one", "id.rec@0 one one one one", 0, false},
		{"o.rec@0 one one one one", "o.rec@0 one one one one", 0, false},
		{"s.rec@0 one one one one", "s.rec@0 one one one one", 0, false},
		{"v one one one one", "v one one one one", 0, false},
	})
}

// Only the Kind of a declaration tells what it is, whatever else it has.
func TestP14_1Kinds(t *testing.T) {
	nat := families(t)[0]
	for kind := -1; kind <= api.DCon+1; kind++ {
		d := api.Decl{Kind: kind, Name: "nat", Type: sort(0), Value: constant("o"), Family: nat.Family, Of: "nat"}
		e := with(t, env.New(), d)
		for want, y := range map[int]*api.Term{api.DDef: of(t, "nat u"), api.DFamily: of(t, "nat.rec@0 P z st (s u)")} {
			got, left, more, err := whnf.Step(e, y, 3)
			if err != nil || more != (kind == want) || more && left != 2 || !more && (left != 3 || dump(got) != dump(y)) {
				t.Errorf("kind %d: %s: %s, %d, %v, %v", kind, shown(y), shown(got), left, more, err)
			}
		}
	}
}

// Without fuel there is no step, but what takes none is told, with the fuel as it was.
func TestP14_1NoFuel(t *testing.T) {
	e := known(t)
	for _, fuel := range []int{0, -1, -20000, math.MinInt} {
		for _, text := range []string{"one", "id o", "(fun x : a => x) a", "let x : a := a in x", "nat.rec@0 P z st o", "nat.rec@0 P z st (id v)"} {
			if got, left, more, err := whnf.Step(e, of(t, text), fuel); got != nil || left != 0 || more || !errors.Is(err, api.ErrFuel) {
				t.Errorf("%s by %d: %s, %d, %v, %v", text, fuel, shown(got), left, more, err)
			}
			if got, left, err := whnf.Whnf(e, of(t, text), fuel); got != nil || left != 0 || !errors.Is(err, api.ErrFuel) {
				t.Errorf("%s by %d: %s, %d, %v", text, fuel, shown(got), left, err)
			}
		}
		for _, text := range []string{"o", "s one", "f v", "fun x : nat => one", "nat.rec@0 P z st v"} {
			x := of(t, text)
			if got, left, more, err := whnf.Step(e, x, fuel); dump(got) != dump(x) || left != fuel || more || err != nil {
				t.Errorf("%s by %d: %s, %d, %v, %v", text, fuel, shown(got), left, more, err)
			}
			if got, left, err := whnf.Whnf(e, x, fuel); dump(got) != dump(x) || left != fuel || err != nil {
				t.Errorf("%s by %d: %s, %d, %v", text, fuel, shown(got), left, err)
			}
		}
	}
}

func TestP14_2Whnf(t *testing.T) {
	const double = "nat.rec@0 (fun x : nat => nat) o (fun x : nat => fun y : nat => s (s y))"
	e := known(t)
	for _, c := range []struct {
		text, want string
		took       int
	}{
		{"o", "o", 0},
		{"v one", "v one", 0},
		{"Type0", "Type0", 0},
		{"fun x : nat => id x", "fun x : nat => id x", 0},
		{"pi x : nat, id x", "pi x : nat, id x", 0},
		{"one", "s o", 1},
		{"two", "s one", 1},
		{"also", "fun x : nat => x", 2},
		{"also also one", "s o", 7},
		{"also one v", "s o v", 4},
		{"nofun one", "Type0 one", 1},
		{"(fun x : a => fun y : a => x) v", "fun y : a => v", 1},
		{"(fun x : a => fun y : a => x y) id one", "s o", 5},
		{"let x : nat := one in let y : nat := x in s y", "s one", 2},
		{"(let x : nat := id in x) (id v)", "v", 5},
		{"before two", "s o", 6},
		{double + " o", "o", 1},
		{double + " one", "s (s (" + double + " o))", 4},
		{double + " (" + double + " one)", "s (s (" + double + " (s (" + double + " o))))", 7},
		{"plus two v", "s (nat.rec@0 (fun x : nat => nat) v (fun x : nat => fun y : nat => s y) one)", 7},
		{"nat.rec@0 P z st v", "nat.rec@0 P z st v", 0},
		{"nat.rec@0 P z st (id v) (id o)", "nat.rec@0 P z st v (id o)", 2},
		{"id (nat.rec@0 P z st (also v))", "nat.rec@0 P z st v", 5},
		{"nat.rec@0 P z st (before (before v))", "nat.rec@0 P z st (nat.rec@0 (fun x : nat => nat) o (fun x : nat => fun y : nat => x) (nat.rec@0 (fun x : nat => nat) o (fun x : nat => fun y : nat => x) v))", 2},
		{"nat.rec@0 P id st o one", "s o", 4},
		{"w.rec@0 P (fun x : a => fun y : a => y v) (node f)", "w.rec@0 P (fun x : a => fun y : a => y v) (f v)", 4},
	} {
		x := of(t, c.text)
		for _, left := range []int{0, 1, 9, math.MaxInt - c.took} {
			got, fuel, err := whnf.Whnf(e, x, c.took+left)
			if dump(got) != dump(of(t, c.want)) || fuel != left || err != nil {
				t.Errorf("%s: %s, %d more than %d, %v", c.text, shown(got), fuel, left, err)
			}
		}
		for less := 1; less <= c.took; less++ {
			if got, fuel, err := whnf.Whnf(e, x, c.took-less); got != nil || fuel != 0 || !errors.Is(err, api.ErrFuel) {
				t.Errorf("%s: with %d less: %s, %d, %v", c.text, less, shown(got), fuel, err)
			}
		}
	}
}

// What has no end takes all fuel that there is.
func TestP14_2NoEnd(t *testing.T) {
	e := known(t)
	e = with(t, e, api.Decl{Kind: api.DDef, Name: "loop", Type: sort(0), Value: constant("loop")})
	e = with(t, e, api.Decl{Kind: api.DDef, Name: "round", Type: sort(0), Value: of(t, "nat.rec@0 P z st round")})
	for _, text := range []string{
		"(fun x : a => x x) (fun x : a => x x)",
		"let x : a := fun y : a => y y in x x",
		"loop",
		"id loop v",
		"nat.rec@0 P z st loop",
		"nat.rec@0 P z st (nat.rec@0 P z st (id loop))",
		"round",
		"(fun x : a => nat.rec@0 P z st (x x)) (fun x : a => nat.rec@0 P z st (x x))",
	} {
		for _, fuel := range []int{1, 2, 50, api.MaxFuel, 3 * api.MaxFuel} {
			if got, left, err := whnf.Whnf(e, of(t, text), fuel); got != nil || left != 0 || !errors.Is(err, api.ErrFuel) {
				t.Errorf("%s by %d: %s, %d, %v", text, fuel, shown(got), left, err)
			}
		}
	}
}

// An error is an api.Errno, or wraps one, and tells what is wrong.
func TestP14_1Errors(t *testing.T) {
	e := known(t)
	for want, x := range map[api.Errno]*api.Term{api.ErrFuel: of(t, "nat.rec@0 P z st (id o)"), api.ErrLarge: app(lam(sort(0), chain(api.MaxNodes+1)), sort(0))} {
		_, _, _, stepErr := whnf.Step(e, x, 2)
		_, _, whnfErr := whnf.Whnf(e, x, 2)
		for _, err := range []error{stepErr, whnfErr} {
			var told api.Errno
			if !errors.As(err, &told) || told != want || !errors.Is(err, want) || !strings.Contains(err.Error(), want.Error()) {
				t.Errorf("%v, want %v", err, want)
			}
		}
	}
}
