package section_test

import (
	"fmt"
	"math"
	"slices"
	"strings"
	"testing"

	"vademecum/api"
)

// row is a section: what is said in it, its variables, and what is left of it.
type row struct {
	said []string
	vars string
	want []string
}

// rows closes sections behind some declarations.
func rows(t *testing.T, rows ...row) {
	t.Helper()
	ahead := []string{"fam nat : Type0 | o : nat | s : nat -> nat", "p : nat -> Type0", "one : nat := s o"}
	from := len(decls(ahead...))
	for i, c := range rows {
		l := decls(slices.Concat(ahead, c.said)...)
		vars := named(l, strings.Fields(c.vars)...)
		closes(t, fmt.Sprint("row ", i), l, from, vars, decls(slices.Concat(ahead, c.want)...))
	}
}

// Variables are bound in what needs them.
func TestP20_2Bound(t *testing.T) {
	rows(t,
		row{nil, "", nil},
		row{[]string{"A : Type0"}, "A", nil},
		row{[]string{"a : nat := o"}, "", []string{"a : nat := o"}},
		// The chapter's example.
		row{[]string{"A : Type0", "id : A -> A := fun x : A => x"}, "A", []string{"id : pi A : Type0 , A -> A := fun A : Type0 => fun x : A => x"}},
		// Of an axiom there is the type alone; where nothing is needed, all stays.
		row{[]string{"A : Type0", "a : A", "b : nat", "c : nat := one"}, "A", []string{"a : pi A : Type0 , A", "b : nat", "c : nat := one"}},
		// What the value alone needs, or the type alone.
		row{[]string{"n : nat", "c : nat := n", "d : p n := o"}, "n", []string{"c : nat -> nat := fun n : nat => n", "d : pi n : nat , p n := fun n : nat => o"}},
		// What is needed for another variable's type.
		row{[]string{"A : Type0", "x : A", "y : A", "k : nat -> nat := fun n : nat => x"}, "A x y", []string{"k : pi A : Type0 , A -> nat -> nat := fun A : Type0 => fun x : A => fun n : nat => x"}},
		// Each variable is bound in the types behind it.
		row{[]string{"A : Type0", "B : A -> Type0", "f : pi x : A , B x", "x : A", "g : B x := f x"}, "A B f x",
			[]string{"g : pi A : Type0 , pi B : A -> Type0 , pi f : ( pi x : A , B x ) , pi x : A , B x := fun A : Type0 => fun B : A -> Type0 => fun f : ( pi x : A , B x ) => fun x : A => f x"}},
		// The order is that of the variables.
		row{[]string{"x : nat", "y : p o", "a : p x := s y"}, "y x", []string{"a : p o -> pi x : nat , p x := fun y : p o => fun x : nat => s y"}},
		// Within each part.
		row{[]string{"A : Type0", "u : A -> A := let t : A := A in fun B : A => pi C : A , A B C"}, "A",
			[]string{"u : pi A : Type0 , A -> A := fun A : Type0 => let t : A := A in fun B : A => pi C : A , A B C"}},
		// Nobody needs one of them.
		row{[]string{"A : Type0", "B : Type0", "b : B"}, "A B", []string{"b : pi B : Type0 , B"}},
	)
}

// A constant that was let go of variables is applied to these.
func TestP20_2Applied(t *testing.T) {
	rows(t,
		row{[]string{"A : Type0", "id : A -> A := fun x : A => x", "y : A", "q : A := id ( id y )"}, "A y",
			[]string{"id : pi A : Type0 , A -> A := fun A : Type0 => fun x : A => x", "q : pi A : Type0 , A -> A := fun A : Type0 => fun y : A => id A ( id A y )"}},
		row{[]string{"n : nat", "m : nat := s n", "v : p m", "w : p m := v"}, "n",
			[]string{"m : nat -> nat := fun n : nat => s n", "v : pi n : nat , p ( m n )", "w : pi n : nat , p ( m n ) := fun n : nat => v n"}},
		// Under binders, and in each part.
		row{[]string{"n : nat", "m : nat := n", "k : m -> m := let b : m := m in fun c : m => pi d : m , m ( s m ) c"}, "n",
			[]string{"m : nat -> nat := fun n : nat => n", "k : pi n : nat , m n -> m n := fun n : nat => let b : m n := m n in fun c : m n => pi d : m n , m n ( s ( m n ) ) c"}},
		// In the types of variables.
		row{[]string{"n : nat", "m : nat := s n", "h : p m", "i : p h", "r : p m := i"}, "n h i",
			[]string{"m : nat -> nat := fun n : nat => s n", "r : pi n : nat , pi h : p ( m n ) , p h -> p ( m n ) := fun n : nat => fun h : p ( m n ) => fun i : p h => i"}},
		// One after another.
		row{[]string{"n : nat", "a : nat := n", "b : nat := a", "c : nat := s b"}, "n",
			[]string{"a : nat -> nat := fun n : nat => n", "b : nat -> nat := fun n : nat => a n", "c : nat -> nat := fun n : nat => s ( b n )"}},
		// Each to those that it was let go of, in their order.
		row{[]string{"x : nat", "y : nat", "z : nat", "a : nat := y", "b : p z := o", "c : p o := a b x", "d : nat := c a"}, "x y z",
			[]string{"a : nat -> nat := fun y : nat => y", "b : pi z : nat , p z := fun z : nat => o",
				"c : nat -> nat -> nat -> p o := fun x : nat => fun y : nat => fun z : nat => a y ( b z ) x",
				"d : nat -> nat -> nat -> nat := fun x : nat => fun y : nat => fun z : nat => c x y z ( a y )"}},
		// One that was let go of none is as it was.
		row{[]string{"n : nat", "a : nat := o", "b : nat := s a n"}, "n", []string{"a : nat := o", "b : nat -> nat := fun n : nat => s a n"}},
		// A recursor's constant isn't its family's, nor a bound variable a constant.
		row{[]string{"A : Type0", "a : Type0 := A", "b : a a.rec@3"}, "A", []string{"a : Type0 -> Type0 := fun A : Type0 => A", "b : pi A : Type0 , a A a.rec@3"}},
		row{[]string{"A : Type0", "a : A", "b : pi a : a , a"}, "A", []string{"a : pi A : Type0 , A", "b : pi A : Type0 , pi k : a A , k"}},
		// What comes later isn't let go of any yet, but is needed for.
		row{[]string{"A : Type0", "b : a b", "a : b -> A"}, "A", []string{"b : pi A : Type0 , a b", "a : pi A : Type0 , b A -> A"}},
	)
}

// Families and their constructors stay as they are, whatever they use; what uses them needs what they need.
func TestP20_2Families(t *testing.T) {
	rows(t,
		row{[]string{"A : Type0", "fam f : nat -> Type0 | c : f o", "a : A := c", "b : f o := a"}, "A",
			[]string{"fam f : nat -> Type0 | c : f o", "a : pi A : Type0 , A := fun A : Type0 => c", "b : Type0 -> f o := fun A : Type0 => a A"}},
		row{[]string{"A : Type0", "a : Type0 := A", "fam f : a -> Type0 | c : A -> f a", "g : nat := f", "h : nat := c g"}, "A",
			[]string{"a : Type0 -> Type0 := fun A : Type0 => A", "fam f : a -> Type0 | c : A -> f a", "g : Type0 -> nat := fun A : Type0 => f", "h : Type0 -> nat := fun A : Type0 => c ( g A )"}},
		row{[]string{"A : Type0", "fam f : Type0 | c : A -> f", "g : nat := f.rec@2", "h : nat := g"}, "A",
			[]string{"fam f : Type0 | c : A -> f", "g : Type0 -> nat := fun A : Type0 => f.rec@2", "h : Type0 -> nat := fun A : Type0 => g A"}},
	)
	// Each Kind but these two is let go of variables.
	for _, kind := range []int{api.DAxiom, api.DDef, api.DFamily, api.DCon, 0, 5, -1} {
		d := api.Decl{Kind: kind, Name: "d", Type: constant("A"), Value: constant("a"), Of: "k", Family: api.Family{Params: 1, Indices: 2, Sort: 3, Cons: []api.Con{{Name: "c", Type: constant("a")}}}}
		want, user := d, decl("u : Type0 := d")
		if kind != api.DFamily && kind != api.DCon {
			want.Type, want.Value = parsed("pi A : Type0 , A"), parsed("fun A : Type0 => a A")
			user = decl("u : Type0 -> Type0 := fun A : Type0 => d A")
		} else {
			user = decl("u : Type0 -> Type0 := fun A : Type0 => d")
		}
		l := append(decls("A : Type0", "a : Type0 := A"), d, decl("u : Type0 := d"))
		closes(t, fmt.Sprint("kind ", kind), l, 0, l[:1], []api.Decl{decl("a : Type0 -> Type0 := fun A : Type0 => A"), want, user})
	}
}

// The first declarations stay whatever they are, and what needs variables because of them is let go of these.
func TestP20_2From(t *testing.T) {
	l := decls("A : Type0", "a : Type0 := A", "b : Type0 := a", "x : b", "c : b := x")
	vars := named(l, "A", "x")
	all := decls("a : Type0 -> Type0 := fun A : Type0 => A", "b : Type0 -> Type0 := fun A : Type0 => a A", "c : pi A : Type0 , b A -> b A := fun A : Type0 => fun x : b A => x")
	two := decls("A : Type0", "a : Type0 := A", "b : Type0 -> Type0 := fun A : Type0 => a", "c : pi A : Type0 , b A -> b A := fun A : Type0 => fun x : b A => x")
	for from, want := range map[int][]api.Decl{
		math.MinInt: all, -1: all, 0: all,
		1: append(l[:1:1], all...),
		2: two,
		3: append(l[:3:3], decl("c : pi A : Type0 , b -> b := fun A : Type0 => fun x : b => x")),
		4: append(l[:4:4], decl("c : pi A : Type0 , b -> b := fun A : Type0 => fun x : b => x")),
		5: l, 6: l, math.MaxInt: l,
	} {
		closes(t, fmt.Sprint("from ", from), l, from, vars, want)
	}
	closes(t, "an empty Env", nil, 0, vars, nil)
	closes(t, "an empty Env", nil, 3, nil, nil)
	closes(t, "no variables", l, 0, nil, l)
	closes(t, "no variables", l, 2, []api.Decl{}, l)
}

// What has a variable's name goes, and what needs that name is let go of it, whatever it is.
func TestP20_2AnyVariables(t *testing.T) {
	l := decls("fam f : Type0 | c : f", "a : f := c", "b : a f f.rec@1", "d : Type0 := a")
	closes(t, "a family", l, 0, l[:1], append(l[1:2:2], decls("a : pi f : Type0 , f := fun f : Type0 => c", "b : pi f : Type0 , a f f f.rec@1", "d : Type0 -> Type0 := fun f : Type0 => a f")...))
	closes(t, "a constructor", l, 0, l[1:2], append(l[:1:1], decls("a : f -> f := fun c : f => c", "b : pi c : f , a c f f.rec@1", "d : f -> Type0 := fun c : f => a c")...))
	closes(t, "a definition", l, 0, l[2:3], append(l[:2:2], decls("b : pi a : f , a f f.rec@1", "d : f -> Type0 := fun a : f => a")...))
	// The Env doesn't have them, or has them otherwise; one of them needs another one.
	l = decls("a : v", "b : Type0 := w a", "c : Type0")
	closes(t, "others", l, 0, decls("c : Type1", "v : c", "w : v -> k", "k : Type0"), decls("a : pi c : Type1 , pi v : c , v", "b : pi c : Type1 , pi v : c , pi w : ( v -> k ) , Type0 -> Type0 := fun c : Type1 => fun v : c => fun w : ( v -> k ) => fun k : Type0 => w ( a c v )"))
}

// Terms may stand under variables that nothing binds; these have more binders around them then.
func TestP20_2Free(t *testing.T) {
	l := []api.Decl{
		{Kind: api.DAxiom, Name: "A", Type: variable(2)},
		{Kind: api.DAxiom, Name: "B", Type: pi(constant("A"), app(variable(0), variable(1)))},
		{Kind: api.DDef, Name: "a", Type: app(variable(0), constant("B")), Value: lam(constant("A"), variable(7))},
		{Kind: api.DDef, Name: "b", Type: app(variable(0), constant("o")), Value: lam(constant("o"), variable(7))},
	}
	a, v := variable, variable(0)
	typeB := pi(a(0), app(v, a(2)))
	want := []api.Decl{
		{Kind: api.DDef, Name: "a", Type: pi(a(2), pi(typeB, app(a(2), a(0)))), Value: lam(a(2), lam(typeB, lam(a(1), a(9))))},
		l[3],
	}
	closes(t, "free", l, 0, l[:2], want)
}

// What has no value gets none; what was no term from the beginning goes the same way, and needn't become one.
func TestP20_2NoTerms(t *testing.T) {
	l := decls("A : Type0", "a : Type0 := A", "b : A")
	l[2].Kind = api.DDef
	closes(t, "a definition without a value", l, 0, l[:1], []api.Decl{decl("a : Type0 -> Type0 := fun A : Type0 => A"), {Kind: api.DDef, Name: "b", Type: parsed("pi A : Type0 , A")}})
	A, v := constant("A"), variable(0)
	for what, c := range map[string][2]*api.Term{
		"a part lacks":     {lam(A, nil), lam(v, nil)},
		"a part too many":  {{Kind: api.TApp, A: A, B: constant("a"), C: A}, {Kind: api.TApp, A: v, B: app(constant("a"), v), C: v}},
		"a last part":      {{Kind: api.TApp, C: constant("a")}, {Kind: api.TApp, C: app(constant("a"), v)}},
		"a middle part":    {{Kind: api.TLam, B: constant("a")}, {Kind: api.TLam, B: app(constant("a"), variable(1))}},
		"a first part":     {{Kind: 9, A: constant("a")}, {Kind: 9, A: app(constant("a"), v)}},
		"no kind":          {{Kind: 0, N: 3, Name: "a"}, {Kind: 0, N: 3, Name: "a"}},
		"too great a sort": {app(sort(10), A, constant("a")), app(sort(10), v, app(constant("a"), v))},
		"a variable":       {variable(100001), variable(100002)},
	} {
		l[2] = api.Decl{Kind: api.DDef, Name: "b", Type: A, Value: c[0]}
		want := api.Decl{Kind: api.DDef, Name: "b", Type: pi(sort(0), v), Value: lam(sort(0), c[1])}
		closes(t, what, l, 0, l[:1], []api.Decl{decl("a : Type0 -> Type0 := fun A : Type0 => A"), want})
		// It needs nothing, and no variables are needed for what uses it.
		l[2].Type = sort(1)
		closes(t, what+", of a sort", l[2:], 0, l[:1], l[2:])
	}
}

// wide is a term of so many nodes, an odd number, with one term again and again.
func wide(nodes int, x *api.Term) *api.Term {
	t := x
	for range nodes / 2 {
		t = app(t, x)
	}
	return t
}

// What is no term any more is refused: of the first declaration of which this is so.
func TestP20_2Large(t *testing.T) {
	A := decl("A : Type0")
	a := decl("a : Type0 := A")
	def := func(typ, value *api.Term) api.Decl {
		return api.Decl{Kind: api.DDef, Name: "b", Type: typ, Value: value}
	}
	for _, nodes := range []int{1, 2989, 2991, 2993, 2995, 2997, 2999} {
		large, small := wide(nodes, constant("A")), constant("A")
		for what, d := range map[string]api.Decl{"type": def(large, small), "value": def(small, large), "both": def(large, large), "an axiom's": {Kind: api.DAxiom, Name: "b", Type: large}} {
			what = fmt.Sprint(what, " of ", nodes, " nodes")
			l := []api.Decl{A, a, d, decl("c : Type0")}
			// There are two nodes more around it.
			if nodes+2 > api.MaxNodes {
				fails(t, what, l, 0, l[:1], "b")
				continue
			}
			want := d
			want.Type = pi(sort(0), bound(d.Type))
			if d.Value != nil {
				want.Value = lam(sort(0), bound(d.Value))
			}
			closes(t, what, l, 0, l[:1], []api.Decl{decl("a : Type0 -> Type0 := fun A : Type0 => A"), want, l[3]})
		}
		// A term that was no term isn't one that is none any more.
		closes(t, "never a term", []api.Decl{A, def(small, app(large, nil))}, 0, []api.Decl{A}, []api.Decl{def(pi(sort(0), variable(0)), lam(sort(0), app(bound(large), nil)))})
	}
	// Each constant has two nodes more.
	for n, ok := range map[int]bool{1: true, 748: true, 749: true, 750: false, 751: false, 1400: false} {
		l := []api.Decl{A, a, def(sort(0), wide(2*n-1, constant("a"))), def(wide(2*n-1, constant("a")), sort(0))}
		l[3].Name = "c"
		if !ok {
			fails(t, fmt.Sprint(n, " constants"), l, 0, l[:1], "b")
			fails(t, fmt.Sprint(n, " constants in a type"), append(l[:2:2], l[3]), 0, l[:1], "c")
			continue
		}
		long := wide(2*n-1, app(constant("a"), variable(0)))
		closes(t, fmt.Sprint(n, " constants"), l, 0, l[:1], []api.Decl{decl("a : Type0 -> Type0 := fun A : Type0 => A"),
			{Kind: api.DDef, Name: "b", Type: pi(sort(0), sort(0)), Value: lam(sort(0), long)}, {Kind: api.DDef, Name: "c", Type: pi(sort(0), long), Value: lam(sort(0), sort(0))}})
	}
}

// bound is a term without binders in which A is a variable.
func bound(t *api.Term) *api.Term {
	if t == nil {
		return nil
	}
	if t.Name == "A" {
		return variable(0)
	}
	return &api.Term{Kind: t.Kind, N: t.N, Name: t.Name, A: bound(t.A), B: bound(t.B), C: bound(t.C)}
}
