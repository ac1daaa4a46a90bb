package infer_test

import (
	"errors"
	"math"
	"strconv"
	"strings"
	"testing"

	"vademecum/api"
	"vademecum/env"
	"vademecum/infer"
	"vademecum/lex"
	"vademecum/syntax"
)

func sort(n int) *api.Term { return &api.Term{Kind: api.TSort, N: n} }

func variable(n int) *api.Term { return &api.Term{Kind: api.TVar, N: n} }

func constant(name string) *api.Term { return &api.Term{Kind: api.TConst, Name: name} }

func rec(name string, n int) *api.Term { return &api.Term{Kind: api.TConst, Name: name, N: n} }

func pi(a, b *api.Term) *api.Term { return &api.Term{Kind: api.TPi, A: a, B: b} }

func lam(a, b *api.Term) *api.Term { return &api.Term{Kind: api.TLam, A: a, B: b} }

func app(a, b *api.Term) *api.Term { return &api.Term{Kind: api.TApp, A: a, B: b} }

func let(a, b, c *api.Term) *api.Term { return &api.Term{Kind: api.TLet, A: a, B: b, C: c} }

// apply is a term applied to others.
func apply(f *api.Term, l ...*api.Term) *api.Term {
	for _, t := range l {
		f = app(f, t)
	}
	return f
}

// dump is all that a term has, as a text: two texts are the same just where the terms are.
func dump(t *api.Term) string {
	var text strings.Builder
	var add func(t *api.Term)
	add = func(t *api.Term) {
		if t == nil {
			text.WriteString("-")
			return
		}
		text.WriteString("(" + strconv.Itoa(t.Kind) + " " + strconv.Itoa(t.N) + " " + strconv.Quote(t.Name))
		add(t.A)
		add(t.B)
		add(t.C)
		text.WriteString(")")
	}
	add(t)
	return text.String()
}

// around: the names of the variables around the terms that tests say, the innermost one last.
var around = []string{"A", "u", "v", "F", "w"}

// context: the types of the variables around, the innermost one last.
func context(t *testing.T) []*api.Term {
	t.Helper()
	var l []*api.Term
	for i, text := range []string{"Type0", "A", "nat", "A -> nat", "p (F u)"} {
		l = append(l, under(t, text, around[:i]))
	}
	return l
}

// under is the term of a text, under some variables.
func under(t *testing.T, text string, names []string) *api.Term {
	t.Helper()
	words, err := lex.Words(text)
	if err != nil {
		t.Fatalf("%q: %v", text, err)
	}
	x, rest, err := syntax.Parse(words, names)
	if err != nil || len(rest) > 0 {
		t.Fatalf("%q: %v, %q", text, err, rest)
	}
	return x
}

// of is the term of a text, under the variables around.
func of(t *testing.T, text string) *api.Term {
	t.Helper()
	return under(t, text, around)
}

// shown is a term as a text, with as many variables around as it may need.
func shown(x *api.Term) string {
	if x == nil {
		return "nothing"
	}
	whole := x
	for range 12 {
		whole = lam(sort(0), whole)
	}
	text := strings.ReplaceAll(syntax.Print(whole), " : Type0 =>", "")
	if text == "" {
		text = dump(x)
	}
	return text[:min(len(text), 300)]
}

// family is a family, its constructors told as name, type, name, type ..
func family(t *testing.T, name string, params, indices int, typ string, cons ...string) api.Decl {
	t.Helper()
	d := api.Decl{Kind: api.DFamily, Name: name, Type: under(t, typ, nil), Family: api.Family{Params: params, Indices: indices}}
	for i := 0; i < len(cons); i += 2 {
		d.Family.Cons = append(d.Family.Cons, api.Con{Name: cons[i], Type: under(t, cons[i+1], nil)})
	}
	return d
}

// families are families of each shape: with parameters, indices, no constructors, arguments that are Deep under products, several of them.
func families(t *testing.T) []api.Decl {
	return []api.Decl{
		family(t, "nat", 0, 0, "Type0", "o", "nat", "s", "nat -> nat"),
		family(t, "no", 0, 0, "Type0"),
		family(t, "bin", 0, 0, "Type0", "leaf", "bin", "fork", "bin -> bin -> bin"),
		family(t, "tree", 0, 0, "Type0", "node", "(nat -> tree) -> tree"),
		family(t, "list", 1, 0, "Type0 -> Type0", "nil", "pi A : Type0, list A", "cons", "pi A : Type0, A -> list A -> list A"),
		family(t, "vec", 1, 1, "Type0 -> nat -> Type0", "vnil", "pi A : Type0, vec A o", "vcons", "pi A : Type0, pi n : nat, A -> vec A n -> vec A (s n)"),
		family(t, "eq", 2, 1, "pi A : Type0, A -> A -> Type0", "refl", "pi A : Type0, pi x : A, eq A x x"),
	}
}

// with is an Env with one declaration more.
func with(t *testing.T, e *env.Env, d api.Decl) *env.Env {
	t.Helper()
	more, err := e.Add(d)
	if err != nil {
		t.Fatal(err)
	}
	return more
}

// withFamilies is an Env with families and their constructors.
func withFamilies(t *testing.T, e *env.Env, l ...api.Decl) *env.Env {
	t.Helper()
	for _, d := range l {
		e = with(t, e, d)
		for _, c := range d.Family.Cons {
			e = with(t, e, api.Decl{Kind: api.DCon, Name: c.Name, Type: c.Type, Of: d.Name})
		}
	}
	return e
}

// assumed is an Env with one axiom more.
func assumed(t *testing.T, e *env.Env, name string, a *api.Term) *env.Env {
	t.Helper()
	return with(t, e, api.Decl{Kind: api.DAxiom, Name: name, Type: a})
}

// defined is an Env with one definition more.
func defined(t *testing.T, e *env.Env, name string, a, value *api.Term) *env.Env {
	t.Helper()
	return with(t, e, api.Decl{Kind: api.DDef, Name: name, Type: a, Value: value})
}

// axioms are axioms by name and type.
var axioms = []string{
	"y", "nat",
	"p", "nat -> Type0",
	"py", "p y",
	"d", "pi x : nat, p x",
	"next", "pi x : nat, p x -> p (s x)",
	"pair", "nat -> nat -> nat",
	"fam", "nat -> Type3",
	"id", "pi A : Type1, A -> A",
	"large", "Type9 -> nat",
	"seed", "tree",
	"absurd", "no",
}

// definitions are definitions by name, type and value.
var definitions = []string{
	"n", "Type0", "nat",
	"one", "nat", "s o",
	"two", "n", "s one",
	"arrow", "Type0", "nat -> nat",
	"arrows", "Type0", "nat -> arrow",
	"inc", "arrow", "s",
	"kind", "Type1", "Type0",
	"plus", "nat -> nat -> nat", "fun a : nat => fun b : nat => nat.rec@0 (fun x : nat => nat) b (fun x : nat => fun y : nat => s y) a",
	"times", "nat -> nat -> nat", "fun a : nat => fun b : nat => nat.rec@0 (fun x : nat => nat) o (fun x : nat => fun y : nat => plus b y) a",
	"many", "nat -> Type0", "nat.rec@1 (fun x : nat => Type0) nat (fun x : nat => fun A : Type0 => nat -> A)",
}

// known is the Env of the tests.
func known(t *testing.T) *env.Env {
	t.Helper()
	e := withFamilies(t, env.New(), families(t)...)
	for i := 0; i < len(axioms); i += 2 {
		e = assumed(t, e, axioms[i], under(t, axioms[i+1], nil))
	}
	for i := 0; i < len(definitions); i += 3 {
		e = defined(t, e, definitions[i], under(t, definitions[i+1], nil), under(t, definitions[i+2], nil))
	}
	return e
}

// row: a term, its type or the error that ends it, and how much fuel is taken up to there.
type row struct {
	term, want string
	err        api.Errno
	took       int
}

// inferred holds Infer against rows, under the variables around.
func inferred(t *testing.T, rows []row) {
	t.Helper()
	e, ctx := known(t), context(t)
	for _, c := range rows {
		x := of(t, c.term)
		for _, more := range []int{0, 1, 7, api.MaxFuel, math.MaxInt - c.took} {
			got, left, err := infer.Infer(e, ctx, x, c.took+more)
			if c.err != api.OK {
				refused(t, c.term, c.took+more, c.err, err, got == nil && left == 0)
				continue
			}
			if err != nil || left != more || dump(got) != dump(of(t, c.want)) {
				t.Errorf("%s by %d: %s, %d, %v; want %s, %d", c.term, c.took+more, shown(got), left, err, c.want, more)
			}
		}
		for fuel := range c.took {
			got, left, err := infer.Infer(e, ctx, x, fuel)
			refused(t, c.term, fuel, api.ErrFuel, err, got == nil && left == 0)
		}
	}
}

// refused holds an error against what it should be, and asks whether nothing is told beside it.
func refused(t *testing.T, what string, fuel int, want api.Errno, err error, nothing bool) {
	t.Helper()
	var told api.Errno
	if !nothing || !errors.Is(err, want) || !errors.As(err, &told) || told != want || !strings.Contains(err.Error(), want.Error()) {
		t.Errorf("%s by %d: %v, nothing beside it: %v; want %v", what, fuel, err, nothing, want)
	}
}

func TestP16_1Sorts(t *testing.T) {
	inferred(t, []row{
		{"Type0", "Type1", 0, 1},
		{"Type5", "Type6", 0, 1},
		{"Type8", "Type9", 0, 1},
		{"Type9", "", api.ErrSort, 1},
	})
}

func TestP16_1Variables(t *testing.T) {
	inferred(t, []row{
		{"A", "Type0", 0, 1},
		{"u", "A", 0, 1},
		{"v", "nat", 0, 1},
		{"F", "A -> nat", 0, 1},
		{"w", "p (F u)", 0, 1},
		{"fun x : p v => w", "p v -> p (F u)", 0, 6},
	})
}

// A variable is there as far as ctx has one.
func TestP16_1NoVariable(t *testing.T) {
	e, ctx := known(t), context(t)
	for n := -3; n < 9; n++ {
		for had := range len(ctx) + 1 {
			got, left, err := infer.Infer(e, ctx[:had], variable(n), 7)
			if n < 0 || n >= had {
				refused(t, "variable "+strconv.Itoa(n), 7, api.ErrVar, err, got == nil && left == 0)
				got, left, err = infer.Infer(e, ctx[:had], lam(constant("nat"), variable(n+1)), 7)
				if n != -1 {
					refused(t, "within, variable "+strconv.Itoa(n+1), 7, api.ErrVar, err, got == nil && left == 0)
				}
			} else if err != nil || left != 6 {
				t.Errorf("variable %d of %d: %v, %d", n, had, err, left)
			}
		}
	}
	for _, n := range []int{math.MinInt, math.MaxInt, 1 << 40} {
		got, left, err := infer.Infer(e, ctx, variable(n), 7)
		refused(t, "variable "+strconv.Itoa(n), 7, api.ErrVar, err, got == nil && left == 0)
		got, left, err = infer.Infer(e, ctx, let(sort(1), sort(0), lam(variable(0), variable(n))), 7)
		refused(t, "behind a let, variable "+strconv.Itoa(n), 7, api.ErrVar, err, got == nil && left == 0)
	}
	got, left, err := infer.Infer(e, []*api.Term{nil, sort(0)}, variable(1), 7)
	refused(t, "a variable without a type", 7, api.ErrVar, err, got == nil && left == 0)
}

func TestP16_1Constants(t *testing.T) {
	inferred(t, []row{
		{"nat", "Type0", 0, 1},
		{"o", "nat", 0, 1},
		{"s", "nat -> nat", 0, 1},
		{"vcons", "pi A : Type0, pi n : nat, A -> vec A n -> vec A (s n)", 0, 1},
		{"py", "p y", 0, 1},
		// The type is as it was declared.
		{"two", "n", 0, 1},
		{"inc", "arrow", 0, 1},
		{"nowhere", "", api.ErrName, 1},
		{"nowhere.at", "", api.ErrName, 1},
	})
}

func TestP16_1Recursors(t *testing.T) {
	inferred(t, []row{
		{"nat.rec@0", "pi P : nat -> Type0, P o -> (pi m : nat, P m -> P (s m)) -> pi m : nat, P m", 0, 1},
		{"nat.rec@8", "pi P : nat -> Type8, P o -> (pi m : nat, P m -> P (s m)) -> pi m : nat, P m", 0, 1},
		{"nat.rec", "pi P : nat -> Type0, P o -> (pi m : nat, P m -> P (s m)) -> pi m : nat, P m", 0, 1},
		{"no.rec@3", "pi P : no -> Type3, pi x : no, P x", 0, 1},
		{"list.rec@2", "pi A : Type0, pi P : list A -> Type2, P (nil A) -> (pi a : A, pi l : list A, P l -> P (cons A a l)) -> pi l : list A, P l", 0, 1},
		{"eq.rec@1", "pi A : Type0, pi x : A, pi P : (pi z : A, eq A x z -> Type1), P x (refl A x) -> pi z : A, pi q : eq A x z, P z q", 0, 1},
		{"nat.rec@9", "", api.ErrSort, 1},
		{"no.rec@9", "", api.ErrSort, 1},
		// Of what there isn't, or what is no family, there is none.
		{"nowhere.rec@0", "", api.ErrName, 1},
		{"nowhere.rec@9", "", api.ErrName, 1},
		{"o.rec@0", "", api.ErrName, 1},
		{"n.rec@0", "", api.ErrName, 1},
		{"y.rec@9", "", api.ErrName, 1},
		{"A.rec@9", "", api.ErrName, 1},
		{"nat.rec.rec@0", "", api.ErrName, 1},
	})
	// Of one family into several sorts.
	e := known(t)
	for _, c := range [][2]int{{2, 0}, {0, 2}, {3, 3}} {
		first, second := rec("no.rec", c[0]), rec("no.rec", c[1])
		of := func(n int) *api.Term {
			return pi(pi(constant("no"), sort(n)), pi(constant("no"), app(variable(1), variable(0))))
		}
		for _, x := range []*api.Term{let(of(c[0]), first, second), app(lam(of(c[0]), second), first)} {
			if got, _, err := infer.Infer(e, nil, x, 60); dump(got) != dump(of(c[1])) || err != nil {
				t.Errorf("%s: %s, %v", shown(x), shown(got), err)
			}
		}
	}
	// The whole may be longer than a name, and it is a constant that is one.
	name := strings.Repeat("f", api.MaxName)
	e = with(t, e, api.Decl{Kind: api.DFamily, Name: name, Type: sort(0)})
	want := pi(pi(constant(name), sort(4)), pi(constant(name), app(variable(1), variable(0))))
	if got, left, err := infer.Infer(e, nil, rec(name+".rec", 4), 1); err != nil || left != 0 || dump(got) != dump(want) {
		t.Errorf("a long name: %s, %d, %v", shown(got), left, err)
	}
}

func TestP16_1Products(t *testing.T) {
	inferred(t, []row{
		{"nat -> nat", "Type0", 0, 3},
		{"pi x : A, p (F x)", "Type0", 0, 9},
		{"Type0 -> nat", "Type1", 0, 3},
		{"nat -> Type0", "Type1", 0, 3},
		{"pi B : Type3, B", "Type4", 0, 3},
		{"pi B : Type3, B -> B", "Type4", 0, 5},
		{"Type2 -> Type4", "Type5", 0, 3},
		{"Type4 -> Type2", "Type5", 0, 3},
		{"Type8 -> Type8", "Type9", 0, 3},
		{"kind -> nat", "Type1", 0, 3},
		{"id Type0 nat -> nat", "Type0", 0, 9},
		{"pi x : nat, fam x", "Type3", 0, 6},
		{"arrow -> arrows", "Type0", 0, 3},
		// One that is no type, or has none.
		{"o -> nat", "", api.ErrSort, 2},
		{"nat -> o", "", api.ErrSort, 3},
		{"s -> nat", "", api.ErrSort, 2},
		{"pi x : nat, x", "", api.ErrSort, 3},
		{"two -> nat", "", api.ErrSort, 3},
		{"Type9 -> nat", "", api.ErrSort, 2},
		{"nat -> Type9", "", api.ErrSort, 3},
		{"(fun x : nat => x) -> nat", "", api.ErrSort, 4},
		{"nowhere -> nat", "", api.ErrName, 2},
		{"nat -> nowhere", "", api.ErrName, 3},
		// What is first ends it.
		{"nowhere -> o", "", api.ErrName, 2},
		{"o -> nowhere", "", api.ErrSort, 2},
		// Which sort it is, is what its type comes to.
		{"(fun B : Type2 => B) Type1 -> nat", "Type2", 0, 8},
		{"many o -> nat", "Type0", 0, 6},
		{"pi x : nat, many x", "Type0", 0, 6},
	})
}

func TestP16_1Functions(t *testing.T) {
	inferred(t, []row{
		{"fun x : Type0 => x", "Type0 -> Type0", 0, 3},
		{"fun x : nat => x", "nat -> nat", 0, 3},
		{"fun x : n => x", "n -> n", 0, 3},
		{"fun x : n => s x", "n -> nat", 0, 7},
		{"fun B : Type0 => fun b : B => b", "pi B : Type0, B -> B", 0, 5},
		{"fun B : Type0 => fun b : B => B", "pi B : Type0, B -> Type0", 0, 5},
		{"fun x : nat => d x", "pi x : nat, p x", 0, 6},
		{"fun x : nat => fun h : p x => next x h", "pi x : nat, p x -> p (s x)", 0, 14},
		{"fun x : nat => w", "nat -> p (F u)", 0, 3},
		{"fun x : nat => fun z : A => F z", "nat -> A -> nat", 0, 8},
		{"fun x : nat -> nat => x v", "(nat -> nat) -> nat", 0, 8},
		{"fun x : Type8 => x", "Type8 -> Type8", 0, 3},
		// Its type needs no type.
		{"fun x : nat => Type8", "nat -> Type9", 0, 3},
		{"fun x : o => x", "", api.ErrSort, 2},
		{"fun x : Type9 => o", "", api.ErrSort, 2},
		{"fun x : nowhere => x", "", api.ErrName, 2},
		{"fun x : nat => nowhere", "", api.ErrName, 3},
		{"fun x : o => nowhere", "", api.ErrSort, 2},
		{"fun x : nat => Type9", "", api.ErrSort, 3},
		{"fun x : nat => x x", "", api.ErrFun, 4},
	})
}

func TestP16_1Applications(t *testing.T) {
	inferred(t, []row{
		{"s o", "nat", 0, 4},
		{"s (s o)", "nat", 0, 7},
		{"s one", "nat", 0, 4},
		{"s two", "nat", 0, 5},
		{"F u", "nat", 0, 4},
		{"d v", "p v", 0, 4},
		{"d (F u)", "p (F u)", 0, 7},
		{"pair o", "nat -> nat", 0, 4},
		{"pair o one", "nat", 0, 7},
		{"next v (d v)", "p (s v)", 0, 10},
		{"next", "pi x : nat, p x -> p (s x)", 0, 1},
		{"next (F u)", "p (F u) -> p (s (F u))", 0, 7},
		{"next (F u) w", "p (s (F u))", 0, 10},
		{"id nat v", "nat", 0, 7},
		{"id Type0 nat", "Type0", 0, 7},
		{"id (nat -> nat) s", "nat -> nat", 0, 9},
		{"id (nat -> nat) s v", "nat", 0, 12},
		{"id (pi x : nat, p x) d v", "p v", 0, 15},
		{"cons A u (nil A)", "list A", 0, 13},
		{"vcons nat o v (vnil nat)", "vec nat (s o)", 0, 16},
		{"(fun x : nat => s x) v", "nat", 0, 9},
		{"(fun B : Type1 => fun b : B => b) nat v", "nat", 0, 11},
		{"(fun B : Type1 => fun b : B => b) A u", "A", 0, 11},
		// A type that comes to a product.
		{"inc o", "nat", 0, 5},
		{"id arrow inc o", "nat", 0, 11},
		{"id arrows", "arrows -> arrows", 0, 4},
		{"id arrows (fun x : nat => s) o one", "nat", 0, 23},
		{"fun f : many one => f v", "many one -> nat.rec@1 (fun x : nat => Type0) nat (fun x : nat => fun B : Type0 => nat -> B) o", 0, 14},
		{"fun f : many one => f", "many one -> many one", 0, 6},
		// What is no function.
		{"o o", "", api.ErrFun, 2},
		{"nat nat", "", api.ErrFun, 2},
		{"Type0 o", "", api.ErrFun, 2},
		{"u v", "", api.ErrFun, 2},
		{"(nat -> nat) o", "", api.ErrFun, 4},
		{"s o o", "", api.ErrFun, 5},
		{"two o", "", api.ErrFun, 3},
		{"inc o o", "", api.ErrFun, 6},
		{"id nat v v", "", api.ErrFun, 8},
		{"id nat nowhere v", "", api.ErrName, 7},
		{"fun f : many o => f v", "", api.ErrFun, 9},
		// It is asked ahead of the argument.
		{"o nowhere", "", api.ErrFun, 2},
		{"nowhere o", "", api.ErrName, 2},
		{"nowhere nowhere o", "", api.ErrName, 3},
		{"s nowhere", "", api.ErrName, 3},
		// An argument that isn't of its type.
		{"s nat", "", api.ErrType, 4},
		{"s s", "", api.ErrType, 4},
		{"F o", "", api.ErrType, 4},
		{"d w", "", api.ErrType, 4},
		{"next o w", "", api.ErrType, 8},
		{"pair nat nowhere", "", api.ErrType, 5},
		{"pair nowhere nat", "", api.ErrName, 4},
		{"cons nat u (nil nat)", "", api.ErrType, 8},
		{"cons A u (nil nat)", "", api.ErrType, 14},
		{"next v (d o)", "", api.ErrType, 11},
	})
}

// An argument may be of a lesser sort than it should be, but only at the end of all products.
func TestP16_1Less(t *testing.T) {
	inferred(t, []row{
		{"id nat", "nat -> nat", 0, 4},
		{"id Type0", "Type0 -> Type0", 0, 4},
		{"id kind", "kind -> kind", 0, 4},
		{"id Type1", "", api.ErrType, 4},
		{"large Type8", "nat", 0, 4},
		{"large nat", "nat", 0, 4},
		{"large o", "", api.ErrType, 4},
		{"large Type9", "", api.ErrSort, 3},
		{"nat.rec@0 p", "p o -> (pi m : nat, p m -> p (s m)) -> pi m : nat, p m", 0, 4},
		{"nat.rec@5 p", "p o -> (pi m : nat, p m -> p (s m)) -> pi m : nat, p m", 0, 6},
		{"nat.rec@3 fam", "fam o -> (pi m : nat, fam m -> fam (s m)) -> pi m : nat, fam m", 0, 4},
		{"nat.rec@2 fam", "", api.ErrType, 6},
		{"id (Type0 -> Type0) (fun B : Type0 => nat)", "Type0 -> Type0", 0, 11},
		{"(fun f : nat -> Type1 => f) p", "nat -> Type1", 0, 10},
		{"(fun f : Type0 -> nat => f) (fun B : Type1 => o)", "", api.ErrType, 11},
		{"(fun f : Type1 -> nat => f) (fun B : Type0 => o)", "", api.ErrType, 11},
		{"(fun l : list Type0 => l)", "", api.ErrType, 5},
	})
}

func TestP16_1Lets(t *testing.T) {
	inferred(t, []row{
		{"let x : nat := o in x", "nat", 0, 5},
		{"let x : nat := two in x", "n", 0, 6},
		{"let x : n := o in x", "nat", 0, 6},
		{"let x : nat := o in Type0", "Type1", 0, 5},
		{"let x : nat := v in d x", "p v", 0, 8},
		{"let x : nat := s v in d x", "p (s v)", 0, 14},
		{"let x : nat := s v in pair x x", "nat", 0, 20},
		{"let x : Type1 := nat in fun z : x => s z", "nat -> nat", 0, 10},
		{"let x : Type1 := A in fun z : x => F z", "A -> nat", 0, 10},
		{"let x : arrow := s in x o", "nat", 0, 11},
		{"let x : nat := F u in w", "p (F u)", 0, 8},
		{"let f : pi B : Type0, B -> B := fun B : Type0 => fun b : B => b in f nat (f nat o)", "nat", 0, 33},
		// One in the other, under binders, as an argument.
		{"let x : nat := o in let z : nat := s x in d z", "p (s o)", 0, 18},
		{"let x : nat := v in fun z : nat => pair x z", "nat -> nat", 0, 13},
		{"let x : nat := v in fun z : nat => let q : nat := pair z x in d q", "pi z : nat, p (pair z v)", 0, 26},
		{"let x : nat := v in fun z : p x => fun q : p v => z", "p v -> p v -> p v", 0, 15},
		{"let B : Type0 := A in fun z : B => let C : Type0 := B in fun q : C => let z : B := q in F z", "A -> A -> nat", 0, 20},
		{"let x : nat := let z : nat := v in s z in d x", "p (let z : nat := v in s z)", 0, 22},
		{"d (let x : nat := v in x)", "p (let x : nat := v in x)", 0, 8},
		{"let x : nat := v in d (let z : nat := x in pair x z)", "p (let z : nat := v in pair v z)", 0, 18},
		{"let x : nat := v in pi z : p x, nat", "Type0", 0, 10},
		{"let B : Type0 := A in pi z : B, p (F z)", "Type0", 0, 13},
		{"let B : Type0 := A in pi z : B, pi q : eq B z u, eq B z u", "Type0", 0, 27},
		{"let B : Type0 := A in fun z : B -> nat => let C : Type0 := B in pi q : C, p (z q)", "(A -> nat) -> Type0", 0, 21},
		// What the value is, isn't asked again where it isn't.
		{"let x : nat := nat in x", "", api.ErrType, 4},
		{"let x : nat := nat in nowhere", "", api.ErrType, 4},
		{"let x : o := o in x", "", api.ErrSort, 2},
		{"let x : nowhere := o in x", "", api.ErrName, 2},
		{"let x : nat := nowhere in x", "", api.ErrName, 3},
		{"let x : nat := o in nowhere", "", api.ErrName, 5},
		{"let x : Type9 := nat in o", "", api.ErrSort, 2},
		{"let x : nat := o in x x", "", api.ErrFun, 6},
	})
}

// sorted: a term, the sort that its type is or the error that ends it, and how much fuel is taken up to there.
type sorted struct {
	term string
	want int
	err  api.Errno
	took int
}

func TestP16_1Sort(t *testing.T) {
	e, ctx := known(t), context(t)
	for _, c := range []sorted{
		{"nat", 0, 0, 1},
		{"A", 0, 0, 1},
		{"Type0", 1, 0, 1},
		{"Type8", 9, 0, 1},
		{"kind", 1, 0, 1},
		{"many", 0, api.ErrSort, 1},
		{"many two", 0, 0, 5},
		{"p (F u)", 0, 0, 7},
		{"fam v", 3, 0, 4},
		{"list nat", 0, 0, 4},
		{"list", 0, api.ErrSort, 1},
		{"arrow", 0, 0, 1},
		{"nat -> Type4", 5, 0, 3},
		{"pi B : Type9, B", 0, api.ErrSort, 2},
		{"pi B : Type8, B", 9, 0, 3},
		{"let B : Type0 := nat in B -> B", 0, 0, 7},
		{"let B : Type1 := Type0 in B -> B", 1, 0, 7},
		{"id Type0 nat", 0, 0, 7},
		{"id Type0 (id Type0 nat)", 0, 0, 13},
		{"id kind nat", 0, 0, 9},
		{"id (id Type1 Type0) nat", 0, api.ErrType, 8},
		{"(fun B : Type1 => B) nat", 1, 0, 6},
		{"(fun B : Type1 => B) Type0", 1, 0, 6},
		{"nat.rec@1 (fun x : nat => Type0) nat (fun x : nat => fun B : Type0 => B) v", 0, 0, 27},
		{"o", 0, api.ErrSort, 1},
		{"v", 0, api.ErrSort, 1},
		{"two", 0, api.ErrSort, 2},
		{"s o", 0, api.ErrSort, 4},
		{"s", 0, api.ErrSort, 1},
		{"fun B : Type0 => B", 0, api.ErrSort, 3},
		{"Type9", 0, api.ErrSort, 1},
		{"nat.rec@0", 0, api.ErrSort, 1},
		{"nowhere", 0, api.ErrName, 1},
		{"s s", 0, api.ErrType, 4},
		{"o o", 0, api.ErrFun, 2},
	} {
		x := of(t, c.term)
		for _, more := range []int{0, 1, 7, api.MaxFuel, math.MaxInt - c.took} {
			got, left, err := infer.Sort(e, ctx, x, c.took+more)
			switch {
			case c.err != api.OK:
				refused(t, c.term, c.took+more, c.err, err, got == 0 && left == 0)
			case err != nil || got != c.want || left != more:
				t.Errorf("%s by %d: %d, %d, %v; want %d, %d", c.term, c.took+more, got, left, err, c.want, more)
			}
		}
		for fuel := range c.took {
			got, left, err := infer.Sort(e, ctx, x, fuel)
			refused(t, c.term, fuel, api.ErrFuel, err, got == 0 && left == 0)
		}
	}
}

// checked: a term, what its type should be, the error, if it is another one, and how much fuel is taken up to there.
type checked struct {
	term, of string
	err      api.Errno
	took     int
}

func TestP16_1Check(t *testing.T) {
	e, ctx := known(t), context(t)
	for _, c := range []checked{
		{"o", "nat", 0, 2},
		{"o", "n", 0, 3},
		{"two", "nat", 0, 3},
		{"two", "n", 0, 2},
		{"u", "A", 0, 2},
		{"w", "p (F u)", 0, 2},
		{"w", "p (let z : nat := F u in z)", 0, 5},
		{"s", "arrow", 0, 5},
		{"inc", "arrow", 0, 2},
		{"inc", "nat -> nat", 0, 5},
		{"py", "(fun x : nat => p x) y", 0, 4},
		{"fun x : nat => x", "nat -> n", 0, 7},
		{"fun x : n => x", "nat -> nat", 0, 8},
		{"s", "many one", 0, 10},
		// Up.
		{"nat", "Type0", 0, 2},
		{"nat", "Type9", 0, 2},
		{"nat", "kind", 0, 3},
		{"Type0", "kind", api.ErrType, 3},
		{"Type0", "Type1", 0, 2},
		{"Type1", "Type1", api.ErrType, 2},
		{"Type8", "Type9", 0, 2},
		{"p", "nat -> Type7", 0, 4},
		{"fun B : Type1 => B", "Type1 -> Type2", 0, 6},
		{"fun B : Type1 => B", "Type0 -> Type1", api.ErrType, 5},
		{"fun B : Type0 => B", "Type1 -> Type1", api.ErrType, 5},
		{"fam", "nat -> Type2", api.ErrType, 4},
		{"o", "Type0", api.ErrType, 2},
		{"o", "A", api.ErrType, 2},
		{"s", "nat", api.ErrType, 2},
		// What a term should be of isn't asked whether it is a type.
		{"o", "nowhere", api.ErrType, 2},
		{"o", "o", api.ErrType, 2},
		{"o", "fun x : nat => nat", api.ErrType, 3},
		{"o", "(fun x : nowhere => nat) nowhere", 0, 3},
		// The term is asked first.
		{"nowhere", "nowhere", api.ErrName, 1},
		{"o o", "Type0", api.ErrFun, 2},
		{"Type9", "Type9", api.ErrSort, 1},
		{"s nat", "nat", api.ErrType, 4},
	} {
		x, a := of(t, c.term), of(t, c.of)
		for _, more := range []int{0, 1, 7, api.MaxFuel, math.MaxInt - c.took} {
			left, err := infer.Check(e, ctx, x, a, c.took+more)
			switch {
			case c.err != api.OK:
				refused(t, c.term+", "+c.of, c.took+more, c.err, err, left == 0)
			case err != nil || left != more:
				t.Errorf("%s, %s by %d: %d, %v; want %d", c.term, c.of, c.took+more, left, err, more)
			}
		}
		for fuel := range c.took {
			left, err := infer.Check(e, ctx, x, a, fuel)
			refused(t, c.term+", "+c.of, fuel, api.ErrFuel, err, left == 0)
		}
	}
}

// Without fuel nothing is told, whatever there is.
func TestP16_1NoFuel(t *testing.T) {
	e, ctx := known(t), context(t)
	for _, fuel := range []int{0, -1, -20000, math.MinInt} {
		for _, text := range []string{"o", "Type0", "Type9", "v", "nowhere", "nat.rec@9", "nat -> nat", "fun x : nat => x", "s o", "let x : nat := o in x"} {
			x := of(t, text)
			a, left, err := infer.Infer(e, ctx, x, fuel)
			refused(t, text, fuel, api.ErrFuel, err, a == nil && left == 0)
			n, left, err := infer.Sort(e, ctx, x, fuel)
			refused(t, text, fuel, api.ErrFuel, err, n == 0 && left == 0)
			left, err = infer.Check(e, ctx, x, x, fuel)
			refused(t, text, fuel, api.ErrFuel, err, left == 0)
		}
		a, left, err := infer.Infer(e, ctx, variable(9), fuel)
		refused(t, "a variable that isn't there", fuel, api.ErrFuel, err, a == nil && left == 0)
	}
}

// Declarations that have no end, or come to what is too large: the errors of what is reduced and compared are told as they are.
func TestP16_1ErrorsBelow(t *testing.T) {
	e, ctx := known(t), context(t)
	e = defined(t, e, "loop", sort(0), constant("loop"))
	e = defined(t, e, "huge", sort(0), chain(api.MaxNodes+1))
	for _, d := range [][2]string{{"lost", "loop"}, {"grown", "huge"}, {"on", "loop -> nat"}, {"big", "huge -> nat"}} {
		e = assumed(t, e, d[0], under(t, d[1], nil))
	}
	for _, c := range []struct {
		term string
		want api.Errno
	}{
		{"lost o", api.ErrFuel},
		{"grown o", api.ErrLarge},
		{"on o", api.ErrFuel},
		{"big o", api.ErrLarge},
		{"s lost", api.ErrFuel},
		{"s grown", api.ErrLarge},
		{"fun x : lost => x", api.ErrFuel},
		{"grown -> nat", api.ErrLarge},
		{"nat -> grown", api.ErrLarge},
		{"let x : nat := lost in x", api.ErrFuel},
		{"let x : grown := o in x", api.ErrLarge},
		{"let x : huge := o in x", api.ErrLarge},
		// The first one ends it.
		{"pair lost grown", api.ErrFuel},
		{"pair grown lost", api.ErrLarge},
		{"pair grown nowhere", api.ErrLarge},
		{"pair nowhere grown", api.ErrName},
		// What needn't be reduced isn't.
		{"fun x : loop => fun y : huge => x", api.OK},
		{"on lost", api.OK},
		{"let x : huge := grown in x", api.OK},
	} {
		for _, fuel := range []int{60, api.MaxFuel} {
			a, left, err := infer.Infer(e, ctx, of(t, c.term), fuel)
			if c.want != api.OK {
				refused(t, c.term, fuel, c.want, err, a == nil && left == 0)
			} else if err != nil || a == nil || left <= 0 {
				t.Errorf("%s by %d: %s, %d, %v", c.term, fuel, shown(a), left, err)
			}
		}
	}
}
