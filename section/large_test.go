package section_test

import (
	"fmt"
	"slices"
	"strconv"
	"strings"
	"testing"

	"vademecum/api"
	"vademecum/env"
	"vademecum/section"
	"vademecum/term"
)

// heap is a term of so many nodes, an odd number, with one name after another.
func heap(nodes int, names ...string) *api.Term {
	t := constant(names[0])
	for i := range nodes / 2 {
		t = app(t, constant(names[(i+1)%len(names)]))
	}
	return t
}

// numbered are so many names.
func numbered(ahead string, n int) []string {
	l := make([]string, n)
	for i := range l {
		l[i] = ahead + strconv.Itoa(i)
	}
	return l
}

// A full Env whose declarations are as large as they may be, each with all names of all that are there.
func TestP20_1AtTheLimits(t *testing.T) {
	all := numbered("d", api.MaxDecls)
	one := heap(2999, all...)
	var l []api.Decl
	for i, name := range all {
		d := api.Decl{Kind: api.DDef, Name: name, Type: one, Value: one}
		if i%8 == 7 {
			d = api.Decl{Kind: api.DFamily, Name: name, Type: one}
			for k := range api.MaxCons {
				d.Family.Cons = append(d.Family.Cons, api.Con{Name: "c" + strconv.Itoa(k), Type: one})
			}
		}
		l = append(l, d)
	}
	e := of(t, l...)
	rising := slices.Sorted(slices.Values(all))
	if got := section.Uses(e, constant("d7")); !slices.Equal(got, rising) {
		t.Errorf("uses %d", len(got))
	}
	if got := section.Needs(e, l, constant("d7")); !slices.Equal(got, all) {
		t.Errorf("needs %d", len(got))
	}
	if got, err := section.Close(e, 0, l); err != nil || got.Len() != 0 {
		t.Errorf("%v", err)
	}
	fails(t, "one variable", l, 0, l[:1], "d1")
	fails(t, "the last one", l, 198, l[199:], "d198")
	closes(t, "no variables", l, 0, nil, l)
	closes(t, "a family stays", l, 199, l[198:199], l)
}

// Many names that nobody declared, behind many declarations.
func TestP20_1ManyNames(t *testing.T) {
	var l []api.Decl
	var want []string
	families := numbered("d", 100)
	for i, name := range families {
		d := api.Decl{Kind: api.DFamily, Name: name, Type: constant("d" + strconv.Itoa(i+1))}
		for k := range 2 {
			names := numbered(fmt.Sprint("n", i, "m", k, "m"), 1500)
			d.Family.Cons = append(d.Family.Cons, api.Con{Name: "c", Type: heap(2999, names...)})
			want = append(want, names...)
		}
		l = append(l, d)
	}
	want = append(append(want, families...), "d100")
	e := of(t, l...)
	slices.Sort(want)
	if got := section.Uses(e, constant("d0")); !slices.Equal(got, want) {
		t.Errorf("uses %d of %d", len(got), len(want))
	}
	vars := []api.Decl{decl("n99m1m1499 : Type0"), decl("d100 : n0m0m0"), decl("n0m0m0 : Type1"), decl("d200 : Type0")}
	for _, name := range []string{"d0", "d1", "d99"} {
		needs(t, name, e, vars, []*api.Term{constant(name)}, "n99m1m1499 d100 n0m0m0")
	}
	needs(t, "d200", e, vars, []*api.Term{constant("d200")}, "d200")
	left := slices.Clone(l)
	for i := range 100 {
		l = append(l, decl(fmt.Sprint("u", i, " : Type0 := d", i)))
		left = append(left, decl(fmt.Sprint("u", i, " : Type0 -> n0m0m0 -> Type1 -> Type0 := fun a : Type0 => fun b : n0m0m0 => fun c : Type1 => d", i)))
	}
	closes(t, "definitions", l, 100, vars, left)
}

// Each declaration needs all variables, and is used by the ones behind it.
func TestP20_2AllOfAll(t *testing.T) {
	const n = 40
	vars, defs := numbered("v", n), numbered("d", api.MaxDecls-n)
	var l, want []api.Decl
	// Each variable's type has all that are ahead of it.
	a := constant("k")
	for _, name := range vars {
		l = append(l, api.Decl{Kind: api.DAxiom, Name: name, Type: a})
		a = app(a, constant(name))
	}
	// turned is a constant applied to so many variables, the outermost first.
	turned := func(name string, n int) *api.Term {
		t := constant(name)
		for i := range n {
			t = app(t, variable(n-1-i))
		}
		return t
	}
	around := func(binder func(a, b *api.Term) *api.Term, t *api.Term) *api.Term {
		for i := n - 1; i >= 0; i-- {
			t = binder(turned("k", i), t)
		}
		return t
	}
	for i, name := range defs {
		value, closed := constant("v39"), variable(0)
		if i > 0 {
			value, closed = app(constant(defs[i-1]), constant(defs[i/2])), app(turned(defs[i-1], n), turned(defs[i/2], n))
		}
		l = append(l, api.Decl{Kind: api.DDef, Name: name, Type: constant("k"), Value: value})
		want = append(want, api.Decl{Kind: api.DDef, Name: name, Type: around(pi, constant("k")), Value: around(lam, closed)})
	}
	closes(t, "all", l, 0, l[:n], want)
	// With as many variables again that nobody needs.
	many := slices.Clone(l[:n])
	for i := range 1 << 17 {
		many = append(many, api.Decl{Kind: api.DAxiom, Name: "w" + strconv.Itoa(i), Type: constant("v39")})
	}
	closes(t, "many variables", l, 0, many, want)
	needs(t, "many variables", of(t, l...), many, []*api.Term{constant("d159")}, strings.Join(vars, " "))
	needs(t, "many variables in a row", env.New(), chainOf(1<<17), []*api.Term{constant("w0")}, strings.Join(numbered("w", 1<<17), " "))
}

// chainOf is so many variables, each of which has the next one in its type.
func chainOf(n int) []api.Decl {
	l := make([]api.Decl, n)
	for i := range l {
		l[i] = api.Decl{Kind: api.DAxiom, Name: "w" + strconv.Itoa(i), Type: constant("w" + strconv.Itoa((i+1)%n))}
	}
	return l
}

// A full Env in which each declaration uses the one behind it.
func TestP20_2Backwards(t *testing.T) {
	const n = api.MaxDecls - 1
	var l, want []api.Decl
	for i := range n {
		d := api.Decl{Kind: api.DDef, Name: "d" + strconv.Itoa(i), Type: sort(0), Value: constant("d" + strconv.Itoa(i+1))}
		l = append(l, d)
		d.Type, d.Value = pi(sort(0), sort(0)), lam(sort(0), d.Value)
		want = append(want, d)
	}
	l[n-1].Value, want[n-1].Value = constant("v"), lam(sort(0), variable(0))
	l = append(l, decl("v : Type0"))
	closes(t, "backwards", l, 0, l[n:], want)
	l[n-1].Value, want[n-1].Value = app(constant("v"), constant("d0")), lam(sort(0), app(variable(0), app(constant("d0"), variable(0))))
	closes(t, "round", l, 0, l[n:], want)
}

// More variables than a term has room for; each is looked for in all of it.
func TestP20_2ManyVariables(t *testing.T) {
	for n, ok := range map[int]bool{1: true, 700: true, 749: true, 1000: false, 1500: false} {
		vars := make([]api.Decl, n)
		names := numbered("v", n)
		for i := range vars {
			vars[i] = api.Decl{Kind: api.DAxiom, Name: names[i], Type: sort(i % 10)}
		}
		l := []api.Decl{{Kind: api.DAxiom, Name: "a", Type: heap(2*n-1, names...)}}
		if !ok {
			fails(t, fmt.Sprint(n), l, 0, vars, "a")
			continue
		}
		x := variable(n - 1)
		for i := range n - 1 {
			x = app(x, variable(n-2-i))
		}
		for i := n - 1; i >= 0; i-- {
			x = pi(sort(i%10), x)
		}
		closes(t, fmt.Sprint(n), l, 0, vars, []api.Decl{{Kind: api.DAxiom, Name: "a", Type: x}})
	}
	// Types that are as large as they may be, far more than have room; and what gets far too large by being applied.
	var vars []api.Decl
	names := numbered("v", 199)
	for _, name := range names {
		vars = append(vars, api.Decl{Kind: api.DAxiom, Name: name, Type: heap(2999, "k")})
	}
	l := append(slices.Clone(vars), api.Decl{Kind: api.DAxiom, Name: "a", Type: heap(397, names...)})
	fails(t, "large types", l, 0, vars, "a")
	fails(t, "large types, one of them", l, 0, vars[:1], "a")
	for i := range vars {
		vars[i].Type = sort(0)
	}
	l = append(slices.Clone(vars[:198]), api.Decl{Kind: api.DAxiom, Name: "a", Type: heap(395, names...)}, api.Decl{Kind: api.DAxiom, Name: "b", Type: heap(2999, "a")})
	fails(t, "applied far too often", l, 0, vars, "b")
	for i := range vars {
		vars[i].Type = heap(2999, "b")
	}
	vars[0].Type = sort(0)
	l = []api.Decl{{Kind: api.DAxiom, Name: "b", Type: constant("v0")}, {Kind: api.DAxiom, Name: "a", Type: heap(395, names...)}}
	fails(t, "types applied far too often", l, 0, vars, "a")
}

// A variable's type may take all the room that there is.
func TestP20_2LargeVariable(t *testing.T) {
	for _, nodes := range []int{2992, 2994, 2996, 2998, 3000} {
		for what, more := range map[string]int{"one": 0, "two": 2} {
			what = fmt.Sprint(what, ", ", nodes, " nodes")
			x := let(sort(0), sort(0), heap(nodes-3, "k", "B"))
			vars := append(decls("B : Type0")[:more/2], api.Decl{Kind: api.DAxiom, Name: "A", Type: x})
			l := decls("a : A")
			if nodes+2+more > api.MaxNodes {
				fails(t, what, l, 0, vars, "a")
				continue
			}
			got, err := section.Close(of(t, l...), 0, vars)
			if err != nil || term.Size(got.List()[0].Type) != nodes+2+more {
				t.Errorf("%s: %v", what, err)
			}
		}
	}
}

// The greatest variable that there is can't have one more binder around it.
func TestP20_2GreatVariables(t *testing.T) {
	vars := decls("A : Type0", "B : A")
	for n, most := range map[int]int{99998: 2, 99999: 1, 100000: 0} {
		for needed := range 3 {
			typ, value := app(variable(n), constant("o"), []*api.Term{sort(0), constant("A"), constant("B")}[needed]), lam(sort(0), app(variable(n+1), constant("o")))
			for what, d := range map[string]api.Decl{"type": {Kind: api.DDef, Name: "a", Type: typ, Value: sort(0)}, "value": {Kind: api.DDef, Name: "a", Type: typ.B, Value: value}} {
				what = fmt.Sprint(what, " with ", n, ", ", needed, " variables")
				switch {
				case n == 100000 && what[0] == 'v':
					continue // no term from the beginning
				case needed > most || needed == most && what[0] == 'v' && needed > 0:
					fails(t, what, []api.Decl{d}, 0, vars, "a")
				default:
					got, err := section.Close(of(t, d), 0, vars)
					if err != nil || !term.Is(got.List()[0].Type) {
						t.Errorf("%s: %v", what, err)
					}
				}
			}
		}
	}
}

// As many parts nested in one another as are promised for, in each direction; only a value may have them.
func TestP20_2Deep(t *testing.T) {
	const deep = 1 << 16
	for what, nest := range map[string]func(x, last *api.Term) *api.Term{
		"to the left":  func(x, last *api.Term) *api.Term { return app(last, x) },
		"to the right": func(x, last *api.Term) *api.Term { return app(x, last) },
		"within":       func(x, last *api.Term) *api.Term { return let(x, last, sort(0)) },
	} {
		x, want := constant("a"), app(constant("a"), variable(0))
		for range deep {
			x, want = nest(constant("A"), x), nest(variable(0), want)
		}
		l := append(decls("A : Type0", "a : A"), api.Decl{Kind: api.DDef, Name: "b", Type: constant("A"), Value: x})
		closes(t, what, l, 0, l[:1], append(decls("a : pi A : Type0 , A"), api.Decl{Kind: api.DDef, Name: "b", Type: pi(sort(0), variable(0)), Value: lam(sort(0), want)}))
		uses(t, what, of(t, l...), constant("b"), "A b")
		uses(t, what, of(t, l...), x, "")
	}
}

// shared is a term with so many nodes one above the other, each of which has the one below it more than once.
func shared(deep int, last *api.Term) *api.Term {
	t := last
	for i := range deep {
		if i%2 == 0 {
			t = let(t, t, sort(0))
		} else {
			t = app(t, t)
		}
	}
	return t
}

// What is shared can't be unfolded, but what comes of it needn't be.
func TestP20_2Shared(t *testing.T) {
	for _, deep := range []int{5, 14, 60, 5000} {
		what := fmt.Sprint(deep, " deep")
		l := append(decls("A : Type0", "a : A"), api.Decl{Kind: api.DDef, Name: "b", Type: constant("A"), Value: shared(deep, app(constant("a"), constant("A")))})
		closes(t, what, l, 0, l[:1], append(decls("a : pi A : Type0 , A"), api.Decl{Kind: api.DDef, Name: "b", Type: pi(sort(0), variable(0)), Value: lam(sort(0), shared(deep, app(constant("a"), variable(0), variable(0))))}))
		if deep > 10 {
			uses(t, what, of(t, l...), l[2].Value, "")
			fails(t, what, l[:2], 0, []api.Decl{{Name: "A", Type: l[2].Value}}, "a")
		}
	}
}

// A value that hangs on itself has no end; a call has.
func TestP20_2WithoutEnd(t *testing.T) {
	round := func(a, b *api.Term) *api.Term {
		x := app(app(nil, a), b)
		x.A.A = app(x, a)
		return x
	}
	l := append(decls("A : Type0", "a : A"), api.Decl{Kind: api.DDef, Name: "b", Type: constant("A"), Value: round(constant("a"), constant("A"))})
	want := append(decls("a : pi A : Type0 , A"), api.Decl{Kind: api.DDef, Name: "b", Type: pi(sort(0), variable(0)), Value: lam(sort(0), round(app(constant("a"), variable(0)), variable(0)))})
	closes(t, "round", l, 0, l[:1], want)
	uses(t, "round", of(t, l...), constant("b"), "A b")
	uses(t, "round", of(t, l...), l[2].Value, "")
	fails(t, "a variable's type", l[:2], 0, []api.Decl{{Name: "A", Type: l[2].Value}}, "a")
	// A constant that hangs on itself, and was let go of variables.
	name := constant("a")
	name.A = name
	l[2].Value = name
	if got, err := section.Close(of(t, l...), 0, l[:1]); err != nil || got.Len() != 2 {
		t.Errorf("a name: %v", err)
	}
}
