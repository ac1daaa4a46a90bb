package infer_test

import (
	"errors"
	"math"
	"testing"

	"vademecum/api"
	"vademecum/env"
	"vademecum/infer"
	"vademecum/term"
)

// deep is as many parts in one another as are promised for.
const deep = 1 << 16

// chain is a stuck term of so many nodes, one or more than four, without variables around.
func chain(nodes int) *api.Term {
	t := constant("y")
	if nodes%2 == 0 {
		// A let has three parts, any other node none or two.
		return app(chain(nodes-5), let(t, t, t))
	}
	for range nodes / 2 {
		t = app(t, constant("y"))
	}
	return t
}

// number is a term of type nat of so many nodes, one or more than two, but two.
func number(nodes int) *api.Term {
	t := constant("o")
	if nodes%2 == 0 {
		t, nodes = let(constant("nat"), t, t), nodes-3
	}
	return nested(nodes/2, t, func(t *api.Term) *api.Term { return app(constant("s"), t) })
}

// nested is a term within so many of a nest.
func nested(n int, t *api.Term, around func(t *api.Term) *api.Term) *api.Term {
	for range n {
		t = around(t)
	}
	return t
}

// asked holds Infer of a term against the type that it should tell and the fuel that it takes, with one more, and with one less.
func asked(t *testing.T, what string, e *env.Env, ctx []*api.Term, x, want *api.Term, took int) {
	t.Helper()
	if got, left, err := infer.Infer(e, ctx, x, took+1); !term.Same(got, want) || left != 1 || err != nil {
		t.Errorf("%s: %s, 1 more than %d, %v", what, shown(got), left, err)
	}
	got, left, err := infer.Infer(e, ctx, x, took-1)
	refused(t, what, took-1, api.ErrFuel, err, got == nil && left == 0)
}

// deepTerm: a term, its type, and how much fuel that takes.
type deepTerm struct {
	what    string
	x, want *api.Term
	took    int
}

// deepTerms are terms of as many parts in one another as are promised for.
func deepTerms() []deepTerm {
	nat, o := constant("nat"), constant("o")
	product := func(t *api.Term) *api.Term { return pi(nat, t) }
	ofType := func(t *api.Term) *api.Term { return pi(t, nat) }
	function := func(t *api.Term) *api.Term { return lam(nat, t) }
	argument := func(t *api.Term) *api.Term { return app(constant("s"), t) }
	applied := func(t *api.Term) *api.Term { return app(lam(nat, t), o) }
	identity := func(t *api.Term) *api.Term { return app(lam(nat, variable(0)), t) }
	bound := func(t *api.Term) *api.Term { return let(nat, variable(0), t) }
	products, functions, arguments := nested(deep, nat, product), nested(deep, o, function), nested(deep, o, argument)
	return []deepTerm{
		{"products", products, sort(0), 1 + 2*deep},
		{"products' types", nested(deep, nat, ofType), sort(0), 1 + 2*deep},
		{"functions", functions, products, 1 + 2*deep},
		{"functions, the outermost variable", nested(deep, variable(deep-1), function), products, 1 + 2*deep},
		{"a function's type", lam(nested(deep, nat, ofType), o), pi(nested(deep, nat, ofType), nat), 3 + 2*deep},
		{"arguments", arguments, nat, 1 + 3*deep},
		{"arguments of functions", nested(deep, o, identity), nat, 1 + 5*deep},
		{"functions applied", nested(deep, o, applied), nat, 1 + 5*deep},
		{"functions applied, their variable", nested(deep, variable(0), applied), nat, 1 + 5*deep},
		{"lets", nested(deep, o, func(t *api.Term) *api.Term { return let(nat, o, t) }), nat, 1 + 4*deep},
		{"lets of one another", let(nat, o, nested(deep, variable(0), bound)), nat, 5 + 4*deep},
		{"lets in functions", nested(deep/2, variable(0), func(t *api.Term) *api.Term { return lam(nat, bound(t)) }), nested(deep/2, nat, product), 1 + 6*deep/2},
		{"lets in arguments", let(nat, o, nested(deep/2, variable(0), func(t *api.Term) *api.Term { return app(constant("s"), bound(t)) })), nat, 5 + 7*deep/2},
		{"arguments in a let", let(nat, o, nested(deep, variable(0), argument)), nat, 5 + 3*deep},
		{"functions in a let", let(nat, o, nested(deep, variable(deep), function)), products, 5 + 2*deep},
		{"a let's value", let(nat, arguments, o), nat, 5 + 3*deep},
		{"a let's value, put into as many", let(nat, arguments, nested(deep, variable(0), argument)), nat, 5 + 9*deep},
		{"a let's type", let(products, functions, o), nat, 5 + 4*deep},
	}
}

func TestP16_1Deep(t *testing.T) {
	e := known(t)
	for _, c := range deepTerms() {
		asked(t, c.what, e, nil, c.x, c.want, c.took)
	}
}

// Rows of as many arguments.
func TestP16_1LongRows(t *testing.T) {
	e, nat, o := known(t), constant("nat"), constant("o")
	products := nested(deep, nat, func(t *api.Term) *api.Term { return pi(nat, t) })
	functions := nested(deep, o, func(t *api.Term) *api.Term { return lam(nat, t) })
	row := func(f, x *api.Term) *api.Term {
		return nested(deep, f, func(t *api.Term) *api.Term { return app(t, x) })
	}
	ctx := []*api.Term{products}
	asked(t, "of a variable", e, ctx, row(variable(0), o), nat, 1+3*deep)
	asked(t, "of functions", e, nil, row(functions, o), nat, 1+5*deep)
	asked(t, "of a let's value", e, ctx, let(products, variable(0), row(variable(0), o)), nat, 5+5*deep)
	asked(t, "in a let", e, ctx, let(nat, o, row(variable(1), variable(0))), nat, 5+3*deep)
	// The type of each hangs on the first one.
	claims := nat
	for i := range deep {
		claims = pi(app(constant("p"), variable(deep-1-i)), claims)
	}
	asked(t, "of proofs", e, []*api.Term{pi(nat, claims)}, row(app(variable(0), constant("y")), constant("py")), nat, 4+3*deep)
	ctx = []*api.Term{nested(deep-1, nat, func(t *api.Term) *api.Term { return pi(nat, t) })}
	if got, left, err := infer.Infer(e, ctx, row(variable(0), o), math.MaxInt); got != nil || left != 0 || !errors.Is(err, api.ErrFun) {
		t.Errorf("one more than there may be: %s, %d, %v", shown(got), left, err)
	}
}

// What comes in may be larger than a term may be, and so may its type; only what comes of a step may not.
func TestP16_1AtTheLimit(t *testing.T) {
	e := known(t)
	double := func(x *api.Term) *api.Term {
		return app(constant("p"), apply(constant("pair"), x, x))
	}
	e = defined(t, e, "claim", pi(constant("nat"), sort(0)), lam(constant("nat"), double(variable(0))))
	e = assumed(t, e, "proof", pi(constant("nat"), app(constant("claim"), variable(0))))
	e = assumed(t, e, "twice", pi(constant("nat"), double(variable(0))))
	for nodes := 1495; nodes < 1502; nodes++ {
		x := number(nodes)
		// By each step half of them is gone through, beside the let.
		took := nodes/2*3 + 1
		if nodes%2 == 0 {
			took = (nodes-4)/2*3 + 5
		}
		asked(t, "a type", e, nil, app(constant("d"), x), app(constant("p"), x), took+3)
		asked(t, "a type, above MaxNodes or not", e, nil, app(constant("twice"), x), double(x), took+3)
		asked(t, "a large term", e, nil, apply(constant("pair"), x, x), constant("nat"), 2*took+5)
		// The claim is reduced by two steps.
		left, err := infer.Check(e, nil, app(constant("proof"), x), double(x), took+7)
		if term.Size(double(x)) > api.MaxNodes {
			refused(t, "reduced above MaxNodes", took+7, api.ErrLarge, err, left == 0)
		} else if left != 0 || err != nil {
			t.Errorf("reduced to %d nodes: %d, %v", term.Size(double(x)), left, err)
		}
	}
}

// What stands behind an argument may be larger than a term may be, and hang on the argument.
func TestP16_1LargeBehind(t *testing.T) {
	e, nat := known(t), constant("nat")
	for _, n := range []int{10, 1490, 1500, 5000} {
		of := func(x *api.Term) *api.Term {
			return app(constant("p"), nested(n, x, func(t *api.Term) *api.Term { return app(constant("s"), t) }))
		}
		ctx := []*api.Term{nat, pi(nat, of(variable(0)))}
		value := app(constant("s"), variable(1))
		asked(t, "an argument", e, ctx, app(variable(0), value), of(value), 6+1)
		asked(t, "an argument in a let", e, ctx, let(nat, variable(1), app(variable(1), app(constant("s"), variable(0)))), of(value), 4+6+1)
		asked(t, "a value", e, ctx, let(nat, value, app(variable(1), variable(0))), of(value), 7+6+1)
	}
}

// A type that is told may be far larger than the term, and need as many nodes as could never be made, were none of them shared.
func TestP16_1HugeTypes(t *testing.T) {
	e, nat := known(t), constant("nat")
	for _, levels := range []int{5, 10, 30, 70} {
		x, want := app(constant("d"), variable(0)), variable(0)
		for range levels {
			x = app(lam(nat, x), apply(constant("pair"), variable(0), variable(0)))
			want = apply(constant("pair"), want, want)
		}
		took := 4 + 11*levels
		asked(t, "functions applied", e, []*api.Term{nat}, x, app(constant("p"), want), took)
		if left, err := infer.Check(e, []*api.Term{nat}, x, app(constant("p"), want), took+1); left != 0 || err != nil {
			t.Errorf("%d levels: %d, %v", levels, left, err)
		}
		if left, err := infer.Check(e, []*api.Term{nat}, x, app(constant("p"), app(constant("s"), want)), math.MaxInt); left != 0 || !errors.Is(err, api.ErrType) {
			t.Errorf("%d levels, another type: %d, %v", levels, left, err)
		}
	}
}

// What is shared is gone through as often as it stands there, as far as there is fuel.
func TestP16_1Shared(t *testing.T) {
	e := known(t)
	for _, levels := range []int{3, 9, 13, 60, 1000} {
		x := nested(levels, constant("o"), func(t *api.Term) *api.Term { return apply(constant("pair"), t, t) })
		bound := let(constant("nat"), constant("o"), nested(levels, variable(0), func(t *api.Term) *api.Term { return apply(constant("pair"), t, t) }))
		if levels < 15 {
			asked(t, "arguments", e, nil, x, constant("nat"), 6<<levels-5)
			asked(t, "arguments in a let", e, nil, bound, constant("nat"), 6<<levels-1)
			continue
		}
		for _, fuel := range []int{1, 2, levels, api.MaxFuel} {
			for _, x := range []*api.Term{x, bound, pi(x, x), lam(x, x), let(x, x, x)} {
				got, left, err := infer.Infer(e, nil, x, fuel)
				refused(t, "what can't be gone through", fuel, api.ErrFuel, err, got == nil && left == 0)
			}
		}
	}
}

// Lets whose values are put in under ever more binders: nothing is put in where it isn't asked for.
func TestP16_1ValuesOfLets(t *testing.T) {
	e, nat := known(t), constant("nat")
	const lets, functions, levels = 300, 300, 10
	// fun x : p v => ..: v is the last one of the lets that double, in as many functions.
	x := constant("o")
	for i := range functions {
		x = lam(app(constant("p"), variable(2*lets+functions-1-i)), x)
	}
	x = nested(lets, x, func(t *api.Term) *api.Term { return lam(nat, let(nat, variable(0), t)) })
	x = nested(levels, x, func(t *api.Term) *api.Term {
		return let(nat, apply(constant("pair"), variable(0), variable(0)), t)
	})
	x = let(nat, constant("o"), x)
	if n := term.Size(x); n > api.MaxNodes {
		t.Fatalf("%d nodes", n)
	}
	value := 6<<levels - 5
	// Each of the doubling ones is one more than half of the next one's.
	took := 4 + lets*6 + functions*(1+3+value) + 1
	for i := range levels {
		took += 3 + 6<<(i+1) - 5
	}
	got, left, err := infer.Infer(e, nil, x, took)
	if err != nil || left != 0 || got == nil {
		t.Errorf("%d, %v", left, err)
	}
	for _, fuel := range []int{api.MaxFuel, took - 1} {
		got, left, err := infer.Infer(e, nil, x, fuel)
		refused(t, "lets", fuel, api.ErrFuel, err, got == nil && left == 0)
	}
}

// rounds are terms that hang on themselves: they have no end; a call has.
func rounds() map[string]*api.Term {
	nat, o, s := constant("nat"), constant("o"), constant("s")
	l := map[string]*api.Term{
		"products":        pi(nat, nil),
		"products' types": pi(nil, nat),
		"both":            pi(nil, nil),
		"functions":       lam(nat, nil),
		"functions' type": lam(nil, o),
		"arguments":       app(s, nil),
		"functions of":    app(nil, o),
		"applied":         app(nil, nil),
		"lets":            let(nat, o, nil),
		"lets' values":    let(nat, nil, o),
		"lets' types":     let(nil, o, o),
		"all":             let(nil, nil, nil),
	}
	for _, x := range l {
		for _, part := range []**api.Term{&x.A, &x.B, &x.C} {
			if *part == nil && (part != &x.C || x.Kind == api.TLet) {
				*part = x
			}
		}
	}
	further := lam(nat, let(nat, variable(0), app(s, nil)))
	further.B.C.B = further
	l["further"] = further
	return l
}

func TestP16_1WithoutEnd(t *testing.T) {
	e := known(t)
	for what, x := range rounds() {
		a, left, err := infer.Infer(e, nil, x, math.MaxInt)
		refused(t, what, math.MaxInt, api.ErrFuel, err, a == nil && left == 0)
		for _, fuel := range []int{1, 2, 40, api.MaxFuel} {
			a, left, err := infer.Infer(e, nil, x, fuel)
			refused(t, what, fuel, api.ErrFuel, err, a == nil && left == 0)
			n, left, err := infer.Sort(e, nil, x, fuel)
			refused(t, what, fuel, api.ErrFuel, err, n == 0 && left == 0)
			left, err = infer.Check(e, nil, x, x, fuel)
			refused(t, what, fuel, api.ErrFuel, err, left == 0)
			a, left, err = infer.Infer(e, nil, let(constant("nat"), constant("o"), lam(constant("nat"), x)), fuel)
			refused(t, what+", in a let", fuel, api.ErrFuel, err, a == nil && left == 0)
		}
		// Around a term, and as what it should be of.
		ctx := []*api.Term{x, constant("nat")}
		for _, y := range []*api.Term{variable(0), variable(1), app(variable(1), variable(0)), lam(variable(1), variable(0))} {
			if a, left, err := infer.Infer(e, ctx, y, 30); err != nil && (a != nil || left != 0) {
				t.Errorf("%s: %d, %v", what, left, err)
			}
		}
		if left, err := infer.Check(e, nil, constant("o"), x, 30); left != 0 || err == nil {
			t.Errorf("%s: o is of it: %d, %v", what, left, err)
		}
	}
}
