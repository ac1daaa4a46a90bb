package recur_test

import (
	"fmt"
	"math"
	"strconv"
	"strings"
	"testing"

	"vademecum/api"
	"vademecum/lex"
	"vademecum/recur"
	"vademecum/spine"
	"vademecum/syntax"
	"vademecum/term"
)

func sort(n int) *api.Term { return &api.Term{Kind: api.TSort, N: n} }

func variable(n int) *api.Term { return &api.Term{Kind: api.TVar, N: n} }

func constant(name string) *api.Term { return &api.Term{Kind: api.TConst, Name: name} }

func rec(name string, n int) *api.Term { return &api.Term{Kind: api.TConst, Name: name, N: n} }

func pi(a, b *api.Term) *api.Term { return &api.Term{Kind: api.TPi, A: a, B: b} }

func lam(a, b *api.Term) *api.Term { return &api.Term{Kind: api.TLam, A: a, B: b} }

func app(a, b *api.Term) *api.Term { return &api.Term{Kind: api.TApp, A: a, B: b} }

func let(a, b, c *api.Term) *api.Term { return &api.Term{Kind: api.TLet, A: a, B: b, C: c} }

func list(l ...*api.Term) []*api.Term { return l }

// dump is all that terms have, as a text: two texts are the same just where the terms are.
func dump(l ...*api.Term) string {
	var text strings.Builder
	var add func(t *api.Term)
	add = func(t *api.Term) {
		if t == nil {
			text.WriteString("-")
			return
		}
		text.WriteString("(" + strconv.Itoa(t.Kind) + " " + strconv.Itoa(t.N) + " " + strconv.Quote(t.Name))
		add(t.A)
		add(t.B)
		add(t.C)
		text.WriteString(")")
	}
	for _, t := range l {
		add(t)
		text.WriteString(" ")
	}
	return text.String()
}

// is holds a term against the one that it should be.
func is(t *testing.T, what string, got, want *api.Term) {
	t.Helper()
	if dump(got) != dump(want) {
		t.Errorf("%s: %s, want %s", what, dump(got), dump(want))
	}
}

// are holds a row against the one that it should be.
func are(t *testing.T, what string, got, want []*api.Term) {
	t.Helper()
	if dump(got...) != dump(want...) || len(got) != len(want) {
		t.Errorf("%s: %s, want %s", what, dump(got...), dump(want...))
	}
}

// of is the term of a text, under variables of some names, the innermost one last, with blanks between.
func of(t *testing.T, text, around string) *api.Term {
	t.Helper()
	words, err := lex.Words(text)
	if err != nil {
		t.Fatalf("%q: %v", text, err)
	}
	x, rest, err := syntax.Parse(words, strings.Fields(around))
	if err != nil || len(rest) > 0 {
		t.Fatalf("%q: %v, %q", text, err, rest)
	}
	return x
}

// all are the terms of texts, under variables of some names.
func all(t *testing.T, around string, texts ...string) []*api.Term {
	t.Helper()
	var l []*api.Term
	for _, text := range texts {
		l = append(l, of(t, text, around))
	}
	return l
}

// family is a family: its constructors as a name, a type, a name, a type ..
func family(t *testing.T, name string, params, indices int, whole string, cons ...string) api.Decl {
	t.Helper()
	d := api.Decl{Kind: api.DFamily, Name: name, Type: of(t, whole, ""), Family: api.Family{Params: params, Indices: indices}}
	for i := 0; i < len(cons); i += 2 {
		d.Family.Cons = append(d.Family.Cons, api.Con{Name: cons[i], Type: of(t, cons[i+1], "")})
	}
	return d
}

func void(t *testing.T) api.Decl { return family(t, "void", 0, 0, "Type0") }

func nat(t *testing.T) api.Decl {
	return family(t, "nat", 0, 0, "Type0", "o", "nat", "s", "nat -> nat")
}

func vec(t *testing.T) api.Decl {
	return family(t, "vec", 1, 1, "Type0 -> nat -> Type0", "vnil", "pi A : Type0, vec A o", "vcons", "pi A : Type0, pi n : nat, A -> vec A n -> vec A (s n)")
}

// wide has arguments that are Deep under products, between others, and two indices, the second under the first.
func wide(t *testing.T) api.Decl {
	return family(t, "wide", 2, 2, "pi A : Type1, pi B : A -> Type1, pi a : A, B a -> Type2",
		"w.one", "pi A : Type1, pi B : A -> Type1, pi f : (pi a : A, pi b : B a, wide A B a b), pi a : A, pi b : B a, wide A B a b -> wide A B a b",
		"w.two", "pi A : Type1, pi B : A -> Type1, pi a : A, pi g : A -> B a, pi h : (pi x : A, wide A B a (g x)), pi y : (A -> A), wide A B a (g (y a))")
}

func TestP13_1Args(t *testing.T) {
	for i, c := range []struct {
		d          api.Decl
		k          int
		names      string
		args, ends []string
	}{
		{nat(t), 0, "", nil, nil},
		{nat(t), 1, "", []string{"nat"}, nil},
		{family(t, "list", 1, 0, "Type0 -> Type0", "nil", "pi A : Type0, list A", "cons", "pi A : Type0, A -> list A -> list A"), 1, "A a l", []string{"A", "list A"}, nil},
		{vec(t), 0, "A", nil, []string{"o"}},
		{vec(t), 1, "A n a v", []string{"nat", "A", "vec A n"}, []string{"s n"}},
		{wide(t), 0, "A B f a b w", []string{"pi a : A, pi b : B a, wide A B a b", "A", "B a", "wide A B a b"}, []string{"a", "b"}},
		{wide(t), 1, "A B a g h y", []string{"A", "A -> B a", "pi x : A, wide A B a (g x)", "A -> A"}, []string{"a", "g (y a)"}},
		{family(t, "lone", 2, 0, "Type0 -> Type0 -> Type0", "c", "pi A : Type0, pi B : Type0, lone A B"), 0, "A B", nil, nil},
	} {
		names := strings.Fields(c.names)
		args, ends := recur.Args(c.d, c.k)
		var want []*api.Term
		for j, text := range c.args {
			// Each is under the parameters and the arguments ahead.
			want = append(want, of(t, text, strings.Join(names[:c.d.Family.Params+j], " ")))
		}
		are(t, fmt.Sprint("arguments, row ", i), args, want)
		are(t, fmt.Sprint("ends, row ", i), ends, all(t, c.names, c.ends...))
	}
}

// A constructor that isn't there has nothing.
func TestP13_1ArgsOfNone(t *testing.T) {
	for _, d := range []api.Decl{nat(t), vec(t), void(t), {}} {
		for _, k := range []int{math.MinInt, -1, len(d.Family.Cons), 2, 8, math.MaxInt} {
			args, ends := recur.Args(d, k)
			are(t, "arguments", args, nil)
			are(t, "ends", ends, nil)
		}
	}
}

func TestP13_1Deep(t *testing.T) {
	for _, c := range []struct {
		params  int
		a       string
		n       int
		within  string
		ends    []string
		is      bool
		comment string
	}{
		{0, "f", 0, "", nil, true, "alone"},
		{0, "f x o", 0, "", []string{"x", "o"}, true, "indices"},
		{1, "f x", 0, "", nil, true, "a parameter"},
		{1, "f x o", 0, "", []string{"o"}, true, "a parameter and an index"},
		{2, "f o o (f x) (g x)", 0, "", []string{"f x", "g x"}, true, "indices of all kinds"},
		{0, "nat -> f x", 1, "_", []string{"x"}, true, "under a product"},
		{1, "pi a : nat, pi b : g a, f b a b x", 2, "a b", []string{"a", "b", "x"}, true, "under products"},
		{1, "pi a : f x, pi b : f a, pi c : g b, f (pi d : c, f d) (fun d : c => d)", 3, "a b c", []string{"fun d : c => d"}, true, "the family in products"},
		{0, "g f", 0, "", nil, false, "another one applied"},
		{0, "pi a : f, g f", 0, "", nil, false, "another one under a product"},
		{0, "pi a : f, a", 0, "", nil, false, "a variable"},
		{0, "x f", 0, "", nil, false, "a variable applied"},
		{1, "f", 0, "", nil, false, "parameters lack"},
		{2, "f x", 0, "", nil, false, "a parameter lacks"},
		{2, "pi a : nat, f a", 0, "", nil, false, "a parameter lacks under a product"},
		{0, "Type0", 0, "", nil, false, "a sort"},
		{0, "f.rec@0", 0, "", nil, false, "its recursor"},
		{0, "f.f", 0, "", nil, false, "a longer name"},
		{0, "fun a : nat => f", 0, "", nil, false, "a function"},
		{0, "let a : nat := o in f", 0, "", nil, false, "a let"},
		{0, "(fun a : nat => f) o", 0, "", nil, false, "what isn't reduced"},
		{0, "(pi a : nat, f) o", 0, "", nil, false, "a product applied"},
		{0, "pi a : nat, fun b : nat => f", 0, "", nil, false, "a function under a product"},
	} {
		// Neither the kind, the type nor the indices have to be there.
		d := api.Decl{Name: "f", Family: api.Family{Params: c.params}}
		n, ends, ok := recur.Deep(d, of(t, c.a, "x"))
		if n != c.n || ok != c.is {
			t.Errorf("%s: %d, %v", c.comment, n, ok)
		}
		are(t, c.comment, ends, all(t, "x "+c.within, c.ends...))
	}
}

func TestP13_2Type(t *testing.T) {
	for i, c := range []struct {
		d    api.Decl
		sort int
		want string
	}{
		{void(t), 9, "pi P : void -> Type9, pi x : void, P x"},
		{nat(t), 0, "pi P : nat -> Type0, P o -> (pi n : nat, P n -> P (s n)) -> pi n : nat, P n"},
		{vec(t), 1, "pi A : Type0, pi P : (pi n : nat, vec A n -> Type1), P o (vnil A) -> (pi n : nat, pi a : A, pi v : vec A n, P n v -> P (s n) (vcons A n a v)) -> pi n : nat, pi v : vec A n, P n v"},
		{wide(t), 4, `pi A : Type1, pi B : A -> Type1, pi P : (pi a : A, pi b : B a, wide A B a b -> Type4),
			(pi f : (pi a : A, pi b : B a, wide A B a b), pi a : A, pi b : B a, pi w : wide A B a b,
				(pi x : A, pi y : B x, P x y (f x y)) -> P a b w -> P a b (w.one A B f a b w)) ->
			(pi a : A, pi g : A -> B a, pi h : (pi x : A, wide A B a (g x)), pi y : (A -> A),
				(pi x : A, P a (g x) (h x)) -> P a (g (y a)) (w.two A B a g h y)) ->
			pi a : A, pi b : B a, pi w : wide A B a b, P a b w`},
		{family(t, "le", 0, 2, "nat -> nat -> Type0", "le.o", "pi n : nat, le o n", "le.s", "pi n : nat, pi m : nat, le n m -> le (s n) (s m)"), 2,
			`pi P : (pi n : nat, pi m : nat, le n m -> Type2), (pi n : nat, P o n (le.o n)) ->
			(pi n : nat, pi m : nat, pi l : le n m, P n m l -> P (s n) (s m) (le.s n m l)) -> pi n : nat, pi m : nat, pi l : le n m, P n m l`},
		{family(t, "w", 2, 0, "pi A : Type0, (A -> Type0) -> Type0", "sup", "pi A : Type0, pi B : A -> Type0, pi a : A, (B a -> w A B) -> w A B"), 3,
			`pi A : Type0, pi B : A -> Type0, pi P : w A B -> Type3, (pi a : A, pi f : (B a -> w A B), (pi b : B a, P (f b)) -> P (sup A B a f)) -> pi x : w A B, P x`},
		{family(t, "t", 0, 0, "Type0", "leaf", "t", "node", "pi l : t, pi n : nat, pi f : (pi a : nat, pi b : g l n a, t), pi r : t, t"), 0,
			`pi P : t -> Type0, P leaf -> (pi l : t, pi n : nat, pi f : (pi a : nat, pi b : g l n a, t), pi r : t,
				P l -> (pi a : nat, pi b : g l n a, P (f a b)) -> P r -> P (node l n f r)) -> pi x : t, P x`},
		{family(t, "and", 2, 0, "Type0 -> Type0 -> Type0", "both", "pi A : Type0, pi B : Type0, A -> B -> and A B"), 0,
			"pi A : Type0, pi B : Type0, pi P : and A B -> Type0, (pi a : A, pi b : B, P (both A B a b)) -> pi x : and A B, P x"},
	} {
		is(t, fmt.Sprint("row ", i), recur.Type(c.d, c.sort), of(t, c.want, ""))
	}
}

// The motive goes into the sort that is asked for, whatever it is.
func TestP13_2Sorts(t *testing.T) {
	for _, n := range []int{math.MinInt, -1, 0, 1, 9, 10, math.MaxInt} {
		is(t, fmt.Sprint("sort ", n), recur.Type(void(t), n), pi(pi(constant("void"), sort(n)), pi(constant("void"), app(variable(1), variable(0)))))
	}
}

func TestP13_3Rule(t *testing.T) {
	names := "q r"
	tree := family(t, "t", 0, 0, "Type0", "leaf", "t", "node", "pi l : t, pi n : nat, pi f : (pi a : nat, pi b : g l n a, t), pi r : t, t")
	for i, c := range []struct {
		d                    api.Decl
		sort, k              int
		params, minors, args []string
		want                 string
	}{
		{nat(t), 0, 0, nil, []string{"z q", "st"}, nil, "z q"},
		{nat(t), 9, 1, nil, []string{"z q", "st r"}, []string{"s q"}, "st r (s q) (nat.rec@9 (P q) (z q) (st r) (s q))"},
		{vec(t), 0, 0, []string{"q"}, []string{"z", "st"}, nil, "z"},
		{vec(t), 2, 1, []string{"g q"}, []string{"z", "st r"}, []string{"s r", "x q", "y r"}, "st r (s r) (x q) (y r) (vec.rec@2 (g q) (P q) z (st r) (s r) (y r))"},
		{wide(t), 5, 0, []string{"m q", "n r"}, []string{"x r", "y"}, []string{"f q", "a r", "b", "w q"},
			`x r (f q) (a r) b (w q)
				(fun a : m q => fun b : n r a => wide.rec@5 (m q) (n r) (P q) (x r) y a b (f q a b))
				(wide.rec@5 (m q) (n r) (P q) (x r) y (a r) b (w q))`},
		{wide(t), 5, 1, []string{"m q", "n r"}, []string{"z r", "y q"}, []string{"a q", "g r", "h q", "y r"},
			"y q (a q) (g r) (h q) (y r) (fun x : m q => wide.rec@5 (m q) (n r) (P q) (z r) (y q) (a q) (g r x) (h q x))"},
		{tree, 1, 1, nil, []string{"x q", "y r"}, []string{"l r", "n q", "f r", "k q"},
			`y r (l r) (n q) (f r) (k q) (t.rec@1 (P q) (x q) (y r) (l r))
				(fun a : nat => fun b : g (l r) (n q) a => t.rec@1 (P q) (x q) (y r) (f r a b))
				(t.rec@1 (P q) (x q) (y r) (k q))`},
	} {
		got := recur.Rule(c.d, c.sort, c.k, all(t, names, c.params...), of(t, "P q", names), all(t, names, c.minors...), all(t, names, c.args...))
		is(t, fmt.Sprint("row ", i), got, of(t, c.want, names))
	}
}

// What is put in for a parameter may be of the family, or a product around it: an argument of that isn't Deep.
func TestP13_3WhatIsPutIn(t *testing.T) {
	l := family(t, "list", 1, 0, "Type0 -> Type0", "nil", "pi A : Type0, list A", "cons", "pi A : Type0, A -> (A -> list A) -> list A")
	for _, param := range []string{"list nat", "nat -> list nat", "nat -> nat"} {
		got := recur.Rule(l, 0, 1, all(t, "", param), constant("P"), all(t, "", "z", "st"), all(t, "", "a", "f"))
		want := "st a f (fun x : (" + param + ") => list.rec@0 (" + param + ") P z st (f x))"
		is(t, param, got, of(t, want, ""))
	}
}

// A minor that isn't there comes to nothing.
func TestP13_3NoMinor(t *testing.T) {
	for _, k := range []int{math.MinInt, -1, 2, 3, math.MaxInt} {
		is(t, fmt.Sprint("minor ", k), recur.Rule(nat(t), 0, k, nil, constant("P"), all(t, "", "z", "st"), all(t, "", "x")), nil)
	}
	is(t, "no minors", recur.Rule(nat(t), 0, 0, nil, constant("P"), nil, nil), nil)
}

// The rule of a constructor says what its minor supposes: the recursor in the motive's place, functions in that of products.
func agree(t *testing.T, d api.Decl, k int, params []*api.Term, p *api.Term, minors, args []*api.Term) {
	t.Helper()
	const into = 3
	parts, _ := spine.Pis(recur.Type(d, into), d.Family.Params+2+k)
	supposed := parts[d.Family.Params+1+k]
	// The motive is a name that stands nowhere else.
	row := append(append(append(list(), params...), constant("Motive")), minors[:k]...)
	supposed = putAll(supposed, row)
	for _, arg := range args {
		supposed = putAll(supposed.B, list(arg))
	}
	want := append(list(), args...)
	for supposed.Kind == api.TPi {
		own, end := spine.Pis(supposed.A, math.MaxInt)
		_, l := spine.Head(end)
		call := append(append(append(list(), params...), p), minors...)
		for i := range call {
			call[i] = lifted(call[i], len(own))
		}
		want = append(want, spine.Lam(own, spine.Apply(rec(d.Name+".rec", into), append(call, l...)...)))
		supposed = putAll(supposed.B, list(constant("unused")))
	}
	is(t, "the rule", recur.Rule(d, into, k, params, p, minors, args), spine.Apply(minors[k], want...))
	// At the end the motive is of the constructor applied.
	_, ends := recur.Args(d, k)
	for i, x := range ends {
		ends[i] = putAll(x, append(append(list(), params...), args...))
	}
	con := spine.Apply(constant(d.Family.Cons[k].Name), append(append(list(), params...), args...)...)
	is(t, "the minor's end", supposed, spine.Apply(constant("Motive"), append(ends, con)...))
}

func TestP13_4RulesAndMinors(t *testing.T) {
	params, p := all(t, "q r", "m q", "n r"), of(t, "P q", "q r")
	agree(t, nat(t), 0, nil, p, params, nil)
	agree(t, nat(t), 1, nil, p, params, all(t, "q r", "s q"))
	agree(t, vec(t), 0, params[:1], p, params, nil)
	agree(t, vec(t), 1, params[:1], p, params, all(t, "q r", "q", "r", "q r"))
	agree(t, wide(t), 0, params, p, params, all(t, "q r", "q", "r", "q r", "r q"))
	agree(t, wide(t), 1, params, p, params, all(t, "q r", "q", "r", "q r", "r q"))
}

// A recursor's type is around no variable, as the family's is.
func TestP13_4Closed(t *testing.T) {
	for i, d := range []api.Decl{void(t), nat(t), vec(t), wide(t)} {
		if x := recur.Type(d, 0); term.Free(x) != 0 || !term.Is(x) {
			t.Errorf("row %d: %s", i, syntax.Print(x))
		}
	}
}

func Example() {
	one := constant("nat")
	nat := api.Decl{Kind: api.DFamily, Name: "nat", Type: sort(0), Family: api.Family{Cons: []api.Con{{Name: "o", Type: one}, {Name: "s", Type: pi(one, one)}}}}
	fmt.Println(syntax.Print(recur.Type(nat, 0)))
	args, ends := recur.Args(nat, 1)
	fmt.Println(len(args), len(ends))
	fmt.Println(syntax.Print(recur.Rule(nat, 0, 1, nil, constant("P"), list(constant("z"), constant("st")), list(constant("n")))))
	// Output:
	// pi _0 : pi _0 : nat , Type0 , pi _1 : _0 o , pi _2 : pi _2 : nat , pi _3 : _0 _2 , _0 ( s _2 ) , pi _3 : nat , _0 _3
	// 1 0
	// st n ( nat.rec@0 P z st n )
}
