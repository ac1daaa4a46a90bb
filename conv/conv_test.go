package conv_test

import (
	"errors"
	"math"
	"strconv"
	"strings"
	"testing"

	"vademecum/api"
	"vademecum/conv"
	"vademecum/env"
	"vademecum/lex"
	"vademecum/syntax"
)

func sort(n int) *api.Term { return &api.Term{Kind: api.TSort, N: n} }

func variable(n int) *api.Term { return &api.Term{Kind: api.TVar, N: n} }

func constant(name string) *api.Term { return &api.Term{Kind: api.TConst, Name: name} }

func rec(name string, n int) *api.Term { return &api.Term{Kind: api.TConst, Name: name, N: n} }

func pi(a, b *api.Term) *api.Term { return &api.Term{Kind: api.TPi, A: a, B: b} }

func lam(a, b *api.Term) *api.Term { return &api.Term{Kind: api.TLam, A: a, B: b} }

func app(a, b *api.Term) *api.Term { return &api.Term{Kind: api.TApp, A: a, B: b} }

func let(a, b, c *api.Term) *api.Term { return &api.Term{Kind: api.TLet, A: a, B: b, C: c} }

// apply is a term applied to others.
func apply(f *api.Term, l ...*api.Term) *api.Term {
	for _, t := range l {
		f = app(f, t)
	}
	return f
}

// dump is all that a term has, as a text: two texts are the same just where the terms are.
func dump(t *api.Term) string {
	var text strings.Builder
	var add func(t *api.Term)
	add = func(t *api.Term) {
		if t == nil {
			text.WriteString("-")
			return
		}
		text.WriteString("(" + strconv.Itoa(t.Kind) + " " + strconv.Itoa(t.N) + " " + strconv.Quote(t.Name))
		add(t.A)
		add(t.B)
		add(t.C)
		text.WriteString(")")
	}
	add(t)
	return text.String()
}

// around: the names of the variables around the terms that tests say, the innermost one last.
var around = []string{"u", "v"}

// of is the term of a text, under the variables around.
func of(t *testing.T, text string) *api.Term {
	t.Helper()
	words, err := lex.Words(text)
	if err != nil {
		t.Fatalf("%q: %v", text, err)
	}
	x, rest, err := syntax.Parse(words, around)
	if err != nil || len(rest) > 0 {
		t.Fatalf("%q: %v, %q", text, err, rest)
	}
	return x
}

// shown is a term as a text, under the variables around.
func shown(x *api.Term) string {
	if x == nil {
		return "nothing"
	}
	text := syntax.Print(lam(sort(0), lam(sort(0), x)))
	if text == "" {
		text = dump(x)
	}
	return text[:min(len(text), 200)]
}

// family is a family, its constructors told as name, type, name, type ..
func family(t *testing.T, name string, params, indices int, typ string, cons ...string) api.Decl {
	t.Helper()
	d := api.Decl{Kind: api.DFamily, Name: name, Type: of(t, typ), Family: api.Family{Params: params, Indices: indices}}
	for i := 0; i < len(cons); i += 2 {
		d.Family.Cons = append(d.Family.Cons, api.Con{Name: cons[i], Type: of(t, cons[i+1])})
	}
	return d
}

// families are families of each shape: with parameters, indices, no constructors, arguments that are Deep under products, several of them.
func families(t *testing.T) []api.Decl {
	return []api.Decl{
		family(t, "nat", 0, 0, "Type0", "o", "nat", "s", "nat -> nat"),
		family(t, "no", 0, 0, "Type0"),
		family(t, "bin", 0, 0, "Type0", "leaf", "bin", "fork", "bin -> bin -> bin"),
		family(t, "w", 0, 0, "Type0", "node", "(nat -> w) -> w"),
		family(t, "list", 1, 0, "Type0 -> Type0", "nil", "pi A : Type0, list A", "cons", "pi A : Type0, A -> list A -> list A"),
		family(t, "vec", 1, 1, "Type0 -> nat -> Type0", "vnil", "pi A : Type0, vec A o", "vcons", "pi A : Type0, pi n : nat, A -> vec A n -> vec A (s n)"),
		family(t, "eq", 2, 1, "pi A : Type0, A -> A -> Type0", "refl", "pi A : Type0, pi x : A, eq A x x"),
		family(t, "q", 1, 2, "Type0 -> nat -> nat -> Type0", "deep", "pi A : Type0, pi n : nat, (pi x : A, pi m : nat, q A m n) -> q A n n"),
	}
}

// withFamilies is an Env with families and their constructors.
func withFamilies(t *testing.T, l ...api.Decl) *env.Env {
	t.Helper()
	e := env.New()
	for _, d := range l {
		e = with(t, e, d)
		for _, c := range d.Family.Cons {
			e = with(t, e, api.Decl{Kind: api.DCon, Name: c.Name, Type: c.Type, Of: d.Name})
		}
	}
	return e
}

// with is an Env with one declaration more.
func with(t *testing.T, e *env.Env, d api.Decl) *env.Env {
	t.Helper()
	more, err := e.Add(d)
	if err != nil {
		t.Fatal(err)
	}
	return more
}

// definitions are definitions by name and value.
var definitions = []string{
	"one", "s o",
	"two", "s one",
	"id", "fun x : nat => x",
	"also", "id",
	"plus", "fun a : nat => fun b : nat => nat.rec@0 (fun x : nat => nat) b (fun x : nat => fun y : nat => s y) a",
	"times", "fun a : nat => fun b : nat => nat.rec@0 (fun x : nat => nat) o (fun x : nat => fun y : nat => plus b y) a",
	"power", "fun a : nat => fun b : nat => nat.rec@0 (fun x : nat => nat) one (fun x : nat => fun y : nat => times a y) b",
	"before", "nat.rec@0 (fun x : nat => nat) o (fun x : nat => fun y : nat => x)",
	"nofun", "Type0",
	"loop", "loop",
}

// known is the Env of the tests: families, axioms, definitions, one of which has no end.
func known(t *testing.T) *env.Env {
	t.Helper()
	e := withFamilies(t, families(t)...)
	for _, name := range []string{"a", "f", "P", "z", "st"} {
		e = with(t, e, api.Decl{Kind: api.DAxiom, Name: name, Type: of(t, "nat")})
	}
	for i := 0; i < len(definitions); i += 2 {
		e = defined(t, e, definitions[i], of(t, definitions[i+1]))
	}
	return e
}

// defined is an Env with one definition more.
func defined(t *testing.T, e *env.Env, name string, value *api.Term) *env.Env {
	t.Helper()
	return with(t, e, api.Decl{Kind: api.DDef, Name: name, Type: sort(0), Value: value})
}

// verdict: whether two terms come to the same: always, with up alone, never.
type verdict int

const (
	same verdict = iota
	less
	unlike
)

// row: two terms, whether they come to the same, and how much fuel that takes.
type row struct {
	a, b string
	want verdict
	took int
}

// compare holds Conv against rows, in an Env.
func compare(t *testing.T, e *env.Env, rows []row) {
	t.Helper()
	for _, c := range rows {
		a, b := of(t, c.a), of(t, c.b)
		compared(t, e, a, b, true, c.want != unlike, c.took)
		compared(t, e, a, b, false, c.want == same, c.took)
		compared(t, e, b, a, false, c.want == same, c.took)
		compared(t, e, b, a, true, c.want == same, c.took)
	}
}

// compared holds Conv of two terms against what it should tell: with more fuel than it takes, with just as much, and with less.
func compared(t *testing.T, e *env.Env, a, b *api.Term, up, want bool, took int) {
	t.Helper()
	for _, left := range []int{0, 1, 7, api.MaxFuel, math.MaxInt - took} {
		got, fuel, err := conv.Conv(e, a, b, up, took+left)
		if got != want || fuel != left || err != nil {
			t.Errorf("%s, %s, up %v: %v, %d more than %d, %v; want %v", shown(a), shown(b), up, got, fuel, left, err, want)
		}
	}
	for less := 1; less <= took; less++ {
		if got, fuel, err := conv.Conv(e, a, b, up, took-less); got || fuel != 0 || !errors.Is(err, api.ErrFuel) {
			t.Errorf("%s, %s, up %v: with %d less: %v, %d, %v", shown(a), shown(b), up, less, got, fuel, err)
		}
	}
}

// What is the same isn't reduced.
func TestP15_1Same(t *testing.T) {
	compare(t, known(t), []row{
		{"o", "o", same, 1},
		{"v", "v", same, 1},
		{"one", "one", same, 1},
		{"Type4", "Type4", same, 1},
		{"nowhere v", "nowhere v", same, 1},
		{"fun x : one => id x", "fun x : one => id x", same, 1},
		{"pi x : one, id x", "pi x : one, id x", same, 1},
		{"let x : nat := one in s x", "let x : nat := one in s x", same, 1},
		{"id (id (id o))", "id (id (id o))", same, 1},
		{"nat.rec@3 P z st one", "nat.rec@3 P z st one", same, 1},
		{"loop", "loop", same, 1},
		{"f loop (x loop)", "f loop (x loop)", same, 1},
	})
}

func TestP15_1Sorts(t *testing.T) {
	compare(t, known(t), []row{
		{"Type0", "Type1", less, 1},
		{"Type0", "Type9", less, 1},
		{"Type8", "Type9", less, 1},
		{"nofun", "Type0", same, 2},
		{"nofun", "Type1", less, 2},
		{"id Type0", "id Type1", less, 5},
		{"id Type3", "let x : nat := Type3 in x", same, 4},
		{"Type0", "nat", unlike, 1},
		{"Type0", "v", unlike, 1},
		{"Type0", "Type1 -> Type1", unlike, 1},
		{"Type0 one", "Type0 one", same, 1},
		{"Type0 one", "Type0 (s o)", unlike, 1},
		{"Type0 o", "Type1 o", unlike, 1},
		{"Type0", "Type0 o", unlike, 1},
	})
}

func TestP15_1Products(t *testing.T) {
	compare(t, known(t), []row{
		{"nat -> nat", "id nat -> nat", same, 5},
		{"nat -> id nat", "nat -> nat", same, 5},
		{"nofun -> nofun", "Type0 -> Type0", same, 5},
		{"pi x : nat, f x v u", "pi x : id nat, f x v u", same, 5},
		{"pi x : nat, id x", "pi x : nat, x", same, 5},
		{"nat -> nat", "nat", unlike, 1},
		{"nat -> nat", "v", unlike, 1},
		{"nat -> nat", "nat -> Type0", unlike, 3},
		{"nat -> nat", "Type0 -> nat", unlike, 2},
		{"pi x : nat, x", "pi x : nat, v", unlike, 3},
		{"pi x : nat, f x", "pi x : nat, f v", unlike, 4},
		{"id (nat -> nat)", "nat -> nat", same, 5},
		// With up only what is at the end of all of them may be less.
		{"nat -> Type0", "nat -> Type1", less, 3},
		{"nat -> nat -> Type2", "nat -> nat -> Type3", less, 5},
		{"nat -> nofun", "nat -> Type3", less, 4},
		{"Type0 -> nat", "Type1 -> nat", unlike, 2},
		{"Type0 -> Type0", "Type1 -> Type1", unlike, 2},
		{"nat -> Type0 -> Type0", "nat -> Type1 -> Type1", unlike, 4},
		{"(nat -> Type0) -> nat", "(nat -> Type1) -> nat", unlike, 4},
		{"nat -> (fun x : nat => Type0)", "nat -> (fun x : nat => Type1)", unlike, 4},
		{"nat -> f Type0", "nat -> f Type1", unlike, 4},
		// The A is asked first.
		{"one -> loop", "two -> o", unlike, 6},
	})
}

func TestP15_1Functions(t *testing.T) {
	compare(t, known(t), []row{
		{"fun x : nat => one", "fun x : nat => s o", same, 4},
		{"fun x : nat => id x", "fun x : nat => x", same, 4},
		{"fun x : nat => fun y : nat => x", "fun x : nat => fun y : nat => y", unlike, 3},
		{"fun x : nat => x", "fun x : nat => v", unlike, 2},
		{"fun x : nat => pi y : x, x", "fun x : nat => pi y : x, y", unlike, 4},
		// Their types aren't asked.
		{"fun x : nat => x", "fun x : Type5 => x", same, 2},
		{"fun x : loop => x", "fun x : nowhere => x", same, 2},
		// Sorts aren't less in them.
		{"fun x : nat => Type0", "fun x : nat => Type1", unlike, 2},
		{"fun x : nat => nat -> Type0", "fun x : nat => nat -> Type1", unlike, 4},
		{"also", "id", same, 5},
		{"also", "fun x : nowhere => x", same, 4},
		{"id id", "fun x : nat => x", same, 5},
		{"plus", "fun x : nat => fun y : nat => plus x y", same, 11},
	})
}

// A function against what is none.
func TestP15_1FunctionAndAnother(t *testing.T) {
	compare(t, known(t), []row{
		{"fun x : nat => f x", "f", same, 2},
		{"fun x : loop => f x", "f", same, 2},
		{"fun x : nat => s x", "s", same, 2},
		{"fun x : nat => v x", "v", same, 2},
		{"fun x : nat => f v x", "f v", same, 2},
		{"fun x : nat => nowhere u v x", "nowhere u v", same, 2},
		{"fun x : nat => nat.rec@1 P z st x", "nat.rec@1 P z st", same, 2},
		{"fun x : nat => Type0 x", "Type0", same, 2},
		{"fun x : nat => (pi y : x, f y u) x", "pi y : v, f y u", unlike, 2},
		{"fun x : nat => (pi y : v, f y u) x", "pi y : v, f y u", same, 2},
		{"fun x : nat => f one x", "f (s o)", same, 6},
		{"fun x : nat => f (id x)", "f", same, 5},
		{"fun x : nat => id (f x)", "f", same, 5},
		{"fun x : nat => v x", "id v", same, 4},
		{"fun x : nat => plus one x", "s", same, 11},
		{"fun x : nat => f one", "f", unlike, 4},
		{"fun x : nat => f x x", "f", unlike, 2},
		{"fun x : nat => f x v", "f v", unlike, 3},
		{"fun x : nat => x v", "v", unlike, 2},
		{"fun x : nat => f", "f", unlike, 2},
		{"fun x : nat => u", "v", unlike, 2},
		{"fun x : nat => P x", "f", unlike, 2},
		{"fun x : nat => nat", "nat -> nat", unlike, 2},
		{"fun x : nat => x", "f", unlike, 2},
		{"fun x : nat => Type0", "f", unlike, 2},
		{"fun x : nat => Type0", "Type0", unlike, 2},
		{"fun x : nat => Type0 x", "Type1", unlike, 2},
		// One function in the other.
		{"fun x : nat => fun y : nat => f x y", "f", same, 3},
		{"fun x : nat => fun y : nat => f u x y", "f u", same, 3},
		{"fun x : nat => fun y : nat => fun m : nat => v x y m", "v", same, 4},
		{"fun x : nat => fun y : nat => f x y", "fun x : nat => f x", same, 3},
		{"fun x : nat => fun y : nat => f y x", "f", unlike, 4},
		{"fun x : nat => fun y : nat => f x x", "f", unlike, 5},
		{"fun x : nat => fun y : nat => f x", "f", unlike, 3},
		{"fun x : nat => fun y : nat => x y", "v", unlike, 3},
		{"fun x : nat => fun y : nat => f (id x) y", "f", same, 7},
		{"fun x : nat => fun y : nat => id (f x) y", "f", same, 7},
		{"fun x : nat => id (fun y : nat => f x y)", "f", same, 5},
		{"fun x : nat => id (fun y : nat => id (fun m : nat => v x y m))", "v", same, 8},
		{"fun x : nat => id (fun y : nat => f x)", "f", unlike, 5},
		{"fun x : nat => id (f x)", "fun x : nat => fun y : nat => f x y", same, 5},
		{"f (fun x : nat => u x) (fun x : nat => fun y : nat => v x y)", "f u v", same, 6},
	})
}

func TestP15_1Heads(t *testing.T) {
	compare(t, known(t), []row{
		{"u", "v", unlike, 1},
		{"u v", "v v", unlike, 1},
		{"u one", "u (s o)", same, 4},
		{"u one v", "u (s o) v", same, 5},
		{"u one v", "u (s o) u", unlike, 5},
		{"u one", "u", unlike, 1},
		{"u", "u one", unlike, 1},
		{"f one", "f (s o)", same, 4},
		{"f u v", "f u u", unlike, 3},
		{"f u v", "f v v", unlike, 2},
		{"f u v", "f u", unlike, 1},
		{"f u", "f u v", unlike, 1},
		{"f", "P", unlike, 1},
		{"f one", "P one", unlike, 1},
		{"f u", "v u", unlike, 1},
		{"nowhere one", "nowhere (s o)", same, 4},
		{"nowhere", "elsewhere", unlike, 1},
		{"nat", "list u", unlike, 1},
		{"nat.rec@0", "nat.rec@1", unlike, 1},
		{"nat.rec@0", "bin.rec@0", unlike, 1},
		{"nowhere.rec@0 o", "nowhere.rec@1 o", unlike, 1},
		{"nat.rec@0 P z st v", "nat.rec@1 P z st v", unlike, 1},
		{"(pi x : nat, x) one", "(pi x : nat, x) (s o)", unlike, 1},
		{"f (pi x : nat, x) one", "f (pi x : nat, x) (s o)", same, 5},
		// In arguments sorts aren't less.
		{"f Type0", "f Type1", unlike, 2},
		{"f (nat -> Type0)", "f (nat -> Type1)", unlike, 4},
		// The first one that is false ends it.
		{"f o loop", "f one o", unlike, 3},
		{"f v loop", "f (id v) loop", same, 5},
		{"f u (f u v) v", "f u (f v u) u", unlike, 4},
	})
}

func TestP15_1Reduced(t *testing.T) {
	compare(t, known(t), []row{
		{"one", "s o", same, 3},
		{"two", "s one", same, 3},
		{"two", "s (s o)", same, 5},
		{"one", "two", unlike, 5},
		{"o", "one", unlike, 2},
		{"also one", "s o", same, 6},
		{"id v", "v", same, 3},
		{"id v", "also v", same, 6},
		{"id v", "u", unlike, 3},
		{"(fun x : nat => x) v", "v", same, 2},
		{"(fun x : nat => f x x) v", "f v v", same, 4},
		{"let x : nat := one in s x", "s one", same, 3},
		{"let x : nat := v in fun y : nat => x", "fun y : nat => v", same, 3},
		{"let x : nat := f in x v", "f (id v)", same, 5},
		{"plus one one", "two", same, 14},
		{"nofun one", "Type0 one", unlike, 2},
	})
}

func TestP15_1Recursors(t *testing.T) {
	compare(t, known(t), []row{
		{"nat.rec@0 P z st o", "z", same, 2},
		{"nat.rec@0 P z st one", "st o z", same, 6},
		{"nat.rec@0 P z st (id v)", "nat.rec@0 P z st v", same, 7},
		{"nat.rec@0 P z st (id v)", "nat.rec@0 P z st (also v)", same, 10},
		{"nat.rec@0 (id P) z st v", "nat.rec@0 P z st v", same, 7},
		{"nat.rec@0 P z st v one", "nat.rec@0 P z st v (s o)", same, 8},
		{"nat.rec@0 P z st (id v) one", "nat.rec@0 P z st v (s o)", same, 10},
		{"nat.rec@0 P z st u", "nat.rec@0 P z st v", unlike, 5},
		{"nat.rec@0 P z st (f one)", "nat.rec@0 P z st (f two)", unlike, 10},
		{"nat.rec@0 P z st (f one)", "nat.rec@0 P z st (f (s o))", same, 8},
		{"nat.rec@0 P z st (s v v)", "nat.rec@0 P z st (s (id v) v)", same, 9},
		{"nat.rec@0 P z st (fun x : nat => f x)", "nat.rec@0 P z st f", same, 6},
		// A major in the other.
		{"nat.rec@0 P z st (nat.rec@0 P z st (id v))", "nat.rec@0 P z st (nat.rec@0 P z st v)", same, 7},
		{"nat.rec@0 P z st (nat.rec@0 (id P) z st (id v))", "nat.rec@0 P z st (nat.rec@0 P z st v)", same, 13},
		{"nat.rec@0 P z st (nat.rec@0 P z st (id v) one)", "nat.rec@0 P z st (nat.rec@0 P z st v (s o))", same, 14},
		{"nat.rec@0 P z st (bin.rec@0 P z st v)", "nat.rec@0 P z st (bin.rec@0 P z st u)", unlike, 9},
		// Parameters, indices.
		{"vec.rec@0 u P z st one (id v)", "vec.rec@0 u P z st (s o) v", same, 11},
		{"vec.rec@0 (id u) P z st o v", "vec.rec@0 u P z st o v", same, 9},
		{"eq.rec@2 u v P z one (id v)", "eq.rec@2 u v P z (s o) v", same, 11},
		{"q.rec@2 u P st one (id u) (also v)", "q.rec@2 u P st (s o) u v", same, 14},
		{"no.rec@0 P (id v)", "no.rec@0 P v", same, 5},
		// Without a major, or a family, no argument was reduced.
		{"nat.rec@0 P z one", "nat.rec@0 P z (s o)", same, 6},
		{"vec.rec@0 u P z st (id o)", "vec.rec@0 u P z st o", same, 8},
		{"no.rec@0 one", "no.rec@0 (s o)", same, 4},
		{"nowhere.rec@0 one one one one", "nowhere.rec@0 (s o) (s o) (s o) (s o)", same, 13},
		{"f.rec@0 one one one one", "f.rec@0 (s o) (s o) (s o) (s o)", same, 13},
		{"v one one one one", "v (s o) (s o) (s o) (s o)", same, 13},
	})
}

// Without fuel nothing is told, not even of what is the same.
func TestP15_1NoFuel(t *testing.T) {
	e := known(t)
	for _, fuel := range []int{0, -1, -20000, math.MinInt} {
		for _, up := range []bool{false, true} {
			for _, c := range [][2]string{{"o", "o"}, {"o", "one"}, {"Type0", "Type1"}, {"u", "v"}, {"loop", "loop"}} {
				if got, left, err := conv.Conv(e, of(t, c[0]), of(t, c[1]), up, fuel); got || left != 0 || !errors.Is(err, api.ErrFuel) {
					t.Errorf("%s, %s by %d: %v, %d, %v", c[0], c[1], fuel, got, left, err)
				}
			}
		}
	}
}

// endless are definitions that have no end: two of each kind, that are alike as far as one may look.
var endless = []string{
	"loop", "loop", "lap", "lap",
	"more", "s more", "most", "s most",
	"inner", "fun x : nat => inner", "within", "fun x : nat => within",
	"open", "nat -> open", "opens", "nat -> opens",
	"left", "left -> nat", "leftmost", "leftmost -> nat",
	"down", "nat.rec@0 P down st v", "downs", "nat.rec@0 P downs st v",
	"major", "nat.rec@0 P z st (f major)", "majors", "nat.rec@0 P z st (f majors)",
	"turn", "fun x : nat => fun y : nat => turn y", "turns", "fun x : nat => fun y : nat => turns y",
}

// What has no end takes all fuel that there is.
func TestP15_1NoEnd(t *testing.T) {
	e := known(t)
	for i := 0; i < len(endless); i += 2 {
		if endless[i] != "loop" {
			e = defined(t, e, endless[i], of(t, endless[i+1]))
		}
	}
	var pairs [][2]string
	for i := 0; i < len(endless); i += 4 {
		pairs = append(pairs, [2]string{endless[i], endless[i+2]})
	}
	pairs = append(pairs, [2]string{"loop", "o"}, [2]string{"inner", "v"}, [2]string{"f u", "turn"}, [2]string{"f loop o", "f o one"}, [2]string{"loop -> o", "o -> one"})
	for _, c := range pairs {
		for _, fuel := range []int{1, 2, 3, 4, 5, 50, api.MaxFuel} {
			for _, up := range []bool{false, true} {
				if got, left, err := conv.Conv(e, of(t, c[0]), of(t, c[1]), up, fuel); got || left != 0 || !errors.Is(err, api.ErrFuel) {
					t.Errorf("%s, %s by %d: %v, %d, %v", c[0], c[1], fuel, got, left, err)
				}
				if got, left, err := conv.Conv(e, of(t, c[1]), of(t, c[0]), up, fuel); got || left != 0 || !errors.Is(err, api.ErrFuel) {
					t.Errorf("%s, %s by %d: %v, %d, %v", c[1], c[0], fuel, got, left, err)
				}
			}
		}
	}
}

// An error is an api.Errno, or wraps one, and tells what is wrong.
func TestP15_1Errors(t *testing.T) {
	e := defined(t, known(t), "large", chain(api.MaxNodes+1))
	for _, c := range []struct {
		a, b string
		fuel int
		want api.Errno
	}{
		{"o", "o", 0, api.ErrFuel},
		{"id o", "o", 2, api.ErrFuel},
		{"o", "id o", 2, api.ErrFuel},
		{"f one", "f (s o)", 3, api.ErrFuel},
		{"fun x : nat => f x", "f", 1, api.ErrFuel},
		{"fun x : nat => id x", "f", 3, api.ErrFuel},
		{"large", "o", 9, api.ErrLarge},
		{"o", "large", 9, api.ErrLarge},
		{"f o large", "f o one", 9, api.ErrLarge},
		{"fun x : nat => large", "f", 9, api.ErrLarge},
		{"f", "fun x : nat => large", 9, api.ErrLarge},
		// Without fuel, what would come of it isn't asked.
		{"large", "o", 1, api.ErrFuel},
		// The first one ends it.
		{"large", "loop", 50, api.ErrLarge},
		{"loop", "large", 50, api.ErrFuel},
		{"f large loop", "f o o", 50, api.ErrLarge},
		{"f loop large", "f o o", 50, api.ErrFuel},
		{"large -> loop", "o -> o", 50, api.ErrLarge},
		{"f o large", "f o loop", 50, api.ErrLarge},
		{"f o loop", "f o large", 50, api.ErrFuel},
		{"fun x : nat => f loop x", "f large", 50, api.ErrFuel},
		{"f large", "fun x : nat => f loop x", 50, api.ErrLarge},
	} {
		got, left, err := conv.Conv(e, of(t, c.a), of(t, c.b), true, c.fuel)
		var told api.Errno
		if got || left != 0 || !errors.As(err, &told) || told != c.want || !errors.Is(err, c.want) || !strings.Contains(err.Error(), c.want.Error()) {
			t.Errorf("%s, %s by %d: %v, %d, %v; want %v", c.a, c.b, c.fuel, got, left, err, c.want)
		}
	}
}
