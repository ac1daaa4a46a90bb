package admit_test

import (
	"math"
	"strconv"
	"testing"

	"vademecum/api"
	"vademecum/env"
	"vademecum/infer"
	"vademecum/term"
)

// nested is a term within so many of a nest.
func nested(n int, t *api.Term, around func(t *api.Term) *api.Term) *api.Term {
	for range n {
		t = around(t)
	}
	return t
}

// number is a term of type nat of so many nodes, one or more than two, but two.
func number(nodes int) *api.Term {
	t := constant("o")
	if nodes%2 == 0 {
		t, nodes = let(constant("nat"), t, t), nodes-3
	}
	return nested(nodes/2, t, func(t *api.Term) *api.Term { return app(constant("s"), t) })
}

// typeOf is a type of so many nodes, likewise.
func typeOf(nodes int) *api.Term {
	t := constant("nat")
	if nodes%2 == 0 {
		t, nodes = let(constant("nat"), constant("o"), t), nodes-3
	}
	return nested(nodes/2, t, func(t *api.Term) *api.Term { return pi(constant("nat"), t) })
}

// A term has MaxNodes nodes at most.
func TestP18_1Nodes(t *testing.T) {
	e := known(t)
	for nodes := 2996; nodes < 3005; nodes++ {
		what, a, b := strconv.Itoa(nodes), typeOf(nodes), number(nodes)
		if term.Size(a) != min(nodes, 3001) || term.Size(b) != min(nodes, 3001) {
			t.Fatalf("%d nodes, %d nodes", term.Size(a), term.Size(b))
		}
		for _, c := range []call{
			{kind: api.DAxiom, name: "x", a: a},
			{kind: api.DDef, name: "x", a: constant("nat"), b: b},
			{kind: api.DFamily, name: "x", a: pi(typeOf(nodes-2), sort(0))},
			{kind: api.DFamily, name: "x", a: sort(0), cons: []api.Con{{Name: "c", Type: pi(typeOf(nodes-2), constant("x"))}}},
		} {
			if nodes > api.MaxNodes {
				refused(t, what, e, c, math.MaxInt, api.ErrForm)
			} else {
				allowed(t, what, e, c, math.MaxInt)
			}
		}
	}
	// Many terms as large as may be.
	c := call{kind: api.DFamily, name: "x", a: sort(0)}
	for i := range 3 {
		c.cons = append(c.cons, api.Con{Name: "c" + strconv.Itoa(i), Type: pi(typeOf(2997), constant("x"))})
	}
	allowed(t, "large", e, c, math.MaxInt)
}

// What a type comes to may be too large.
func TestP18_1TooLarge(t *testing.T) {
	e := known(t)
	e = added(t, e, call{kind: api.DAxiom, name: "pair", a: of(t, "nat -> nat -> nat")}.decls()...)
	e = allowed(t, "claim", e, def(t, "claim", "nat -> Type0", "fun x : nat => p (pair x x)"), 100)
	e = allowed(t, "proof", e, axiom(t, "proof", "pi x : nat, claim x"), 100)
	for nodes := 1490; nodes < 1510; nodes++ {
		if nodes == 1496 || nodes == 1498 {
			continue
		}
		x := number(nodes)
		c := call{kind: api.DDef, name: "x", a: constant("nat"), b: app(constant("proof"), x)}
		d := call{kind: api.DAxiom, name: "x", a: app(constant("proof"), x)}
		f := call{kind: api.DFamily, name: "x", a: sort(0), cons: []api.Con{{Name: "c", Type: pi(app(constant("proof"), x), constant("x"))}}}
		// p, pair, two applications more and twice the number.
		large := 5+2*nodes > api.MaxNodes
		for c, err := range map[*call]api.Errno{&c: api.ErrType, &d: api.ErrSort, &f: api.ErrSort} {
			if large {
				err = api.ErrLarge
			}
			refused(t, strconv.Itoa(nodes), e, *c, math.MaxInt, err)
		}
	}
}

// cost is what the sort of a type takes, told by infer, which doesn't hold fuel.
func cost(t *testing.T, e *env.Env, a *api.Term) int {
	t.Helper()
	_, left, err := infer.Sort(e, nil, a, math.MaxInt)
	if err != nil {
		t.Fatalf("%s: %v", said(a), err)
	}
	return math.MaxInt - left
}

// withNumbers is an Env with numbers that take much to compare.
func withNumbers(t *testing.T, e *env.Env) *env.Env {
	t.Helper()
	for _, c := range []call{
		def(t, "eight", "nat", "plus (plus two two) (plus two two)"),
		def(t, "sixteen", "nat", "plus two (plus eight (plus two (plus two two)))"),
	} {
		e = added(t, e, c.decls()...)
	}
	return e
}

// costly is a type, of sort 0, whose sort takes so much fuel, one or more than five, where there are such numbers.
func costly(t *testing.T, e *env.Env, took int) *api.Term {
	t.Helper()
	x := constant("nat")
	much := of(t, "(fun q : eq nat (plus eight eight) sixteen => nat) (refl nat (plus eight eight))")
	each := 1 + cost(t, e, much)
	left := took - 1
	for left > 2*each {
		x, left = pi(much, x), left-each
	}
	if left%2 == 1 {
		x, left = pi(app(constant("p"), constant("o")), x), left-5
	}
	x = nested(left/2, x, func(t *api.Term) *api.Term { return pi(constant("nat"), t) })
	if got := cost(t, e, x); got != took || term.Size(x) > api.MaxNodes-100 {
		t.Fatalf("%d of %d, by %d nodes", got, took, term.Size(x))
	}
	return x
}

// made is a term that comes to a constant by one step, and whose type takes so much fuel.
func made(t *testing.T, e *env.Env, name string, took int) *api.Term {
	t.Helper()
	// The application, the function, its Type0, the constant, and to compare.
	return app(lam(sort(0), constant(name)), costly(t, e, took-5))
}

// taking are calls that take so much fuel, or one less where it can't be so much.
func taking(t *testing.T, e *env.Env, took int) map[string]call {
	t.Helper()
	x := constant("x")
	con := func(name string, n int, end *api.Term) api.Con {
		// It is asked twice, in the type, and as a part.
		return api.Con{Name: name, Type: pi(costly(t, e, n), end)}
	}
	half := (took - 8) / 2
	return map[string]call{
		"axiom":              {kind: api.DAxiom, name: "x", a: costly(t, e, took)},
		"axiom, applied":     {kind: api.DAxiom, name: "x", a: made(t, e, "nat", took)},
		"definition":         {kind: api.DDef, name: "x", a: made(t, e, "nat", took-3), b: constant("o")},
		"definition's value": {kind: api.DDef, name: "x", a: constant("nat"), b: made(t, e, "o", took-2)},
		"both":               {kind: api.DDef, name: "x", a: made(t, e, "nat", 7000), b: made(t, e, "o", took-7002)},
		"family":             {kind: api.DFamily, name: "x", a: pi(costly(t, e, took-2), sort(0))},
		"constructor":        {kind: api.DFamily, name: "x", a: pi(constant("nat"), sort(0)), cons: []api.Con{con("c", half, app(x, constant("o")))}},
		"constructors":       {kind: api.DFamily, name: "x", a: pi(constant("nat"), sort(0)), cons: []api.Con{con("b", 3000, app(x, constant("o"))), con("c", half-3000-3, app(x, constant("o")))}},
	}
}

// Fuel goes on from the one to the next, and is held to MaxFuel whatever is handed in.
func TestP18_1MostFuel(t *testing.T) {
	e := withNumbers(t, known(t))
	for what, c := range taking(t, e, api.MaxFuel) {
		for _, fuel := range []int{api.MaxFuel, math.MaxInt} {
			allowed(t, what, e, c, fuel)
		}
		refused(t, what, e, c, api.MaxFuel-2, api.ErrFuel)
		if what != "constructors" {
			refused(t, what, e, c, api.MaxFuel-1, api.ErrFuel)
		}
	}
	for what, c := range taking(t, e, api.MaxFuel+2) {
		for _, fuel := range []int{api.MaxFuel, api.MaxFuel + 2, 1 << 40} {
			refused(t, what, e, c, fuel, api.ErrFuel)
		}
	}
	for what, c := range taking(t, e, api.MaxFuel+1) {
		// Constructors can't take as much: their parts are asked twice.
		if what != "constructor" && what != "constructors" {
			refused(t, what, e, c, math.MaxInt, api.ErrFuel)
		}
	}
}

// There is room for MaxDecls declarations.
func TestP18_1Full(t *testing.T) {
	e := known(t)
	for n := api.MaxDecls - 12; n <= api.MaxDecls; n++ {
		full, what := filled(t, e, n), strconv.Itoa(n)
		l := []call{axiom(t, "x", "nat"), def(t, "x", "nat", "s o")}
		for k := range 9 {
			c := call{kind: api.DFamily, name: "x", a: sort(0)}
			for i := range k {
				c.cons = append(c.cons, api.Con{Name: "c" + strconv.Itoa(i), Type: pi(constant("nat"), constant("x"))})
			}
			l = append(l, c)
		}
		for _, c := range l {
			if n+len(c.decls()) > api.MaxDecls {
				refused(t, what, full, c, 500, api.ErrFull)
			} else {
				allowed(t, what, full, c, 500)
			}
		}
	}
	// Up to the last one, one behind the other.
	e = env.New()
	for i := range api.MaxDecls {
		e = allowed(t, "row", e, axiom(t, "x"+strconv.Itoa(i), "Type0"), 1)
	}
	refused(t, "row", e, axiom(t, "x", "Type0"), 1, api.ErrFull)
	refused(t, "row", e, family(t, "x", 0, "Type0"), 1, api.ErrFull)
	allowed(t, "one less", e.Cut(api.MaxDecls-1), axiom(t, "x", "Type0"), 1)
}

// Of a full Env the constructors aren't asked, as the family can't be in it; of one that gets full they are.
func TestP18_2Full(t *testing.T) {
	e := known(t)
	for room := range 4 {
		full := filled(t, e, api.MaxDecls-room)
		for _, c := range []call{
			family(t, "x", 0, "Type0", "a", "x", "b", "nowhere -> x", "c", "x"),
			family(t, "x", 0, "Type0", "a", "x", "b", "x", "c", "nowhere -> x"),
			family(t, "x", 0, "Type0", "a", "nowhere -> x", "b", "x", "c", "x"),
		} {
			want := api.ErrName
			if room == 0 {
				want = api.ErrFull
			}
			refused(t, strconv.Itoa(room), full, c, 500, want)
			refused(t, strconv.Itoa(room), full, c, 0, api.ErrFuel)
		}
		c := family(t, "x", 0, "Type9", "a", "x", "b", "nowhere -> x", "c", "x")
		refused(t, strconv.Itoa(room), full, c, 500, api.ErrSort)
		c = family(t, "x", 0, "Type0", "a", "x", "b", "x", "y", "x")
		refused(t, strconv.Itoa(room), full, c, 500, api.ErrName)
	}
}

// A family has MaxCons constructors at most, telescopes MaxArgs parts, a constructor's behind the parameters.
func TestP18_2Telescopes(t *testing.T) {
	e := known(t)
	nat := constant("nat")
	product := func(n int, x *api.Term) *api.Term {
		return nested(n, x, func(t *api.Term) *api.Term { return pi(nat, t) })
	}
	for params := range 14 {
		for parts := range 14 {
			for args := range 14 {
				x := constant("x")
				for i := range params {
					x = app(x, variable(params+args-1-i))
				}
				for range parts - params {
					x = app(x, constant("o"))
				}
				c := call{kind: api.DFamily, name: "x", params: params, a: product(parts, sort(0)), cons: []api.Con{{Name: "c", Type: product(params+args, x)}, {Name: "e", Type: product(params+args, x)}}}
				switch what := strconv.Itoa(params) + " " + strconv.Itoa(parts) + " " + strconv.Itoa(args); {
				case params > api.MaxArgs:
					refused(t, what, e, c, math.MaxInt, api.ErrForm)
				case parts > api.MaxArgs || parts < params || args > api.MaxArgs:
					refused(t, what, e, c, math.MaxInt, api.ErrPos)
				case (params+parts+args)%3 == 0 || params+parts+args > 30:
					allowed(t, what, e, c, math.MaxInt)
				}
			}
		}
	}
	for n := range 12 {
		c := call{kind: api.DFamily, name: "x", a: sort(0)}
		for i := range n {
			c.cons = append(c.cons, api.Con{Name: "c" + strconv.Itoa(i), Type: product(i, constant("x"))})
		}
		if n > api.MaxCons {
			refused(t, strconv.Itoa(n), e, c, math.MaxInt, api.ErrForm)
		} else {
			allowed(t, strconv.Itoa(n), e, c, math.MaxInt)
		}
	}
}

// As much as there may be of all at once.
func TestP18_2Greatest(t *testing.T) {
	e := known(t)
	nat, x := constant("nat"), constant("x")
	for i := range api.MaxArgs {
		x = app(x, variable(2*api.MaxArgs-1-i))
	}
	typ := nested(2*api.MaxArgs, x, func(t *api.Term) *api.Term { return pi(nat, t) })
	c := call{kind: api.DFamily, name: "x", params: api.MaxArgs, a: nested(api.MaxArgs, sort(0), func(t *api.Term) *api.Term { return pi(nat, t) })}
	for i := range api.MaxCons {
		c.cons = append(c.cons, api.Con{Name: "c" + strconv.Itoa(i), Type: typ})
	}
	// 12 products of the family; 24 of each constructor, with the variables put in, and its 12 parts.
	took := 1 + 2*12 + 8*(2*24+1+12*3+12)
	takes(t, "greatest", e, c, took)
}
