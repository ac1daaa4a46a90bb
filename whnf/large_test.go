package whnf_test

import (
	"errors"
	"math"
	"testing"

	"vademecum/api"
	"vademecum/env"
	"vademecum/term"
	"vademecum/whnf"
)

// chain is a stuck term of so many nodes, one or more than four, without variables around.
func chain(nodes int) *api.Term {
	t := constant("a")
	if nodes%2 == 0 {
		// A let has three parts, any other node none or two.
		return app(chain(nodes-5), let(t, t, t))
	}
	for range nodes / 2 {
		t = app(t, constant("a"))
	}
	return t
}

// natRec is nat's recursor, applied up to its major.
func natRec(z, st, major *api.Term) *api.Term {
	return apply(rec("nat.rec", 0), constant("P"), z, st, major)
}

// large holds a call's answer against ErrLarge.
func large(t *testing.T, what string, e *env.Env, x *api.Term, fuel int) {
	t.Helper()
	if got, left, more, err := whnf.Step(e, x, fuel); got != nil || left != 0 || more || !errors.Is(err, api.ErrLarge) {
		t.Errorf("%s: Step: %d nodes, %d, %v, %v", what, term.Size(got), left, more, err)
	}
	if got, left, err := whnf.Whnf(e, x, fuel); got != nil || left != 0 || !errors.Is(err, api.ErrLarge) {
		t.Errorf("%s: Whnf: %d nodes, %d, %v", what, term.Size(got), left, err)
	}
}

// oneStep holds a step, which takes one of fuel, against the number of nodes that it comes to.
func oneStep(t *testing.T, what string, e *env.Env, x *api.Term, nodes int) {
	t.Helper()
	if nodes > api.MaxNodes {
		large(t, what, e, x, 1)
		large(t, what, e, x, api.MaxFuel)
	} else if got, left, more, err := whnf.Step(e, x, 5); term.Size(got) != nodes || left != 4 || !more || err != nil {
		t.Errorf("%s: %d nodes, %d, %v, %v; want %d nodes", what, term.Size(got), left, more, err, nodes)
	}
	// Without fuel, what would come of it isn't asked.
	if got, left, more, err := whnf.Step(e, x, 0); got != nil || left != 0 || more || !errors.Is(err, api.ErrFuel) {
		t.Errorf("%s: %d nodes, %d, %v, %v; want ErrFuel", what, term.Size(got), left, more, err)
	}
}

// As many nodes as a term may have, one less, and one more, of each step.
func TestP14_1AtTheLimit(t *testing.T) {
	a, o := constant("a"), constant("o")
	for n := api.MaxNodes - 1; n <= api.MaxNodes+2; n++ {
		e := with(t, known(t), api.Decl{Kind: api.DDef, Name: "all", Type: a, Value: chain(n)})
		e = with(t, e, api.Decl{Kind: api.DDef, Name: "less", Type: a, Value: chain(n - 4)})
		oneStep(t, "function", e, app(lam(a, chain(n)), a), n)
		oneStep(t, "function of a large one", e, app(lam(a, variable(0)), chain(n)), n)
		oneStep(t, "function of one that stands twice", e, app(lam(a, app(variable(0), app(variable(0), chain(n-2004)))), chain(1001)), n)
		oneStep(t, "function, more arguments", e, apply(lam(a, a), a, chain(n-2)), n)
		oneStep(t, "let", e, let(a, a, chain(n)), n)
		oneStep(t, "let of a large one", e, let(a, chain(n), variable(0)), n)
		oneStep(t, "let, applied", e, apply(let(a, a, a), chain(n-4), a), n)
		oneStep(t, "definition", e, constant("all"), n)
		oneStep(t, "definition, applied", e, apply(constant("less"), a, a), n)
		oneStep(t, "rule", e, natRec(chain(n), a, o), n)
		oneStep(t, "rule, applied", e, app(natRec(a, a, o), chain(n-2)), n)
		// It comes to st m (nat.rec@0 P z st m).
		oneStep(t, "rule of a large minor", e, natRec(chain(n-12), a, app(constant("s"), a)), n)
		oneStep(t, "rule of a large argument", e, natRec(chain(n-10-2*1001), a, app(constant("s"), chain(1001))), n)
	}
}

// A major that comes to too much is an error of all that it stands in. What is stuck may have more nodes than a term may have, as no step comes to it.
func TestP14_1LargeMajor(t *testing.T) {
	e := known(t)
	for n := api.MaxNodes - 1; n <= api.MaxNodes+1; n++ {
		for i, around := range []func(major *api.Term) *api.Term{
			func(major *api.Term) *api.Term { return natRec(chain(n), chain(n), major) },
			func(major *api.Term) *api.Term { return apply(natRec(chain(n), chain(n), major), chain(n), chain(n)) },
			func(major *api.Term) *api.Term { return natRec(chain(9), chain(8), natRec(chain(n), chain(n), major)) },
		} {
			x, want := around(app(lam(constant("a"), chain(n)), constant("a"))), around(chain(n))
			if n > api.MaxNodes {
				large(t, "major", e, x, 3)
				continue
			}
			got, left, more, err := whnf.Step(e, x, 3)
			if !term.Same(got, want) || left != 2 || more || err != nil {
				t.Errorf("row %d, %d nodes: Step: %d, %v, %v", i, n, left, more, err)
			}
			got, left, err = whnf.Whnf(e, x, 3)
			if !term.Same(got, want) || left != 2 || err != nil {
				t.Errorf("row %d, %d nodes: Whnf: %d, %v", i, n, left, err)
			}
		}
	}
}

// told holds what both calls tell of a term, by so much fuel, against what it comes to by one step, or by none.
func told(t *testing.T, what string, e *env.Env, x, want *api.Term, took int, more bool) {
	t.Helper()
	if got, left, stepped, err := whnf.Step(e, x, took+1); !term.Same(got, want) || left != 1 || stepped != more || err != nil {
		t.Errorf("%s: Step: %d nodes, %d, %v, %v", what, term.Size(got), left, stepped, err)
	}
	if got, left, err := whnf.Whnf(e, x, took+1); !term.Same(got, want) || left != 1 || err != nil {
		t.Errorf("%s: Whnf: %d nodes, %d, %v", what, term.Size(got), left, err)
	}
}

// nested is so many functions in one another, around a variable around them.
func nested(deep int) *api.Term {
	t := variable(deep)
	for range deep {
		t = lam(constant("a"), t)
	}
	return t
}

// long is a term applied to so many others.
func long(f *api.Term, n int) *api.Term {
	for range n {
		f = app(f, constant("a"))
	}
	return f
}

// What comes in may be larger than a term may be; only what comes of it may not.
func TestP14_1LargeIn(t *testing.T) {
	const deep = 1 << 16
	e, a, x := known(t), constant("a"), nested(deep)
	row := long(a, deep)
	told(t, "a function", e, x, x, 0, false)
	told(t, "a row", e, row, row, 0, false)
	told(t, "a minor", e, natRec(x, row, a), natRec(x, row, a), 0, false)
	told(t, "a part of a constructor", e, natRec(a, x, app(app(constant("o"), x), x)), natRec(a, x, app(app(constant("o"), x), x)), 0, false)
	told(t, "what isn't put in", e, app(lam(x, a), x), a, 1, true)
	told(t, "a let's type and value", e, let(x, row, a), a, 1, true)
	told(t, "what a rule leaves out", e, apply(rec("bin.rec", 0), row, a, x, constant("leaf")), a, 1, true)
	told(t, "what is left of a row", e, apply(rec("list.rec", 0), row, row, a, row, app(constant("nil"), x)), a, 1, true)
	large(t, "what is put in", e, app(lam(a, variable(0)), x), 1)
	large(t, "a body", e, app(lam(a, x), a), 1)
	large(t, "arguments", e, app(app(lam(a, a), a), x), 1)
	large(t, "a minor in its place", e, natRec(x, a, constant("o")), 1)
	large(t, "a minor in a rule", e, natRec(x, a, app(constant("s"), a)), 1)
	large(t, "a motive in a rule", e, apply(rec("nat.rec", 0), x, a, a, app(constant("s"), a)), 1)
	large(t, "an argument of a rule", e, natRec(a, a, app(constant("s"), x)), 1)
	large(t, "a parameter of a rule", e, apply(rec("q.rec", 0), x, a, a, a, a, apply(constant("deep"), a, a, a)), 1)
	large(t, "a row that is left", e, long(app(lam(a, a), a), deep), 1)
}

// What is put in would have to be made once for each of as many places as there are: more nodes than could be held.
func TestP14_1ManyPlaces(t *testing.T) {
	const deep = 1 << 15
	e, a := known(t), constant("a")
	body := variable(deep)
	for i := range deep {
		body = lam(a, app(variable(deep-1-i), body))
	}
	large(t, "function", e, app(lam(a, body), nested(deep)), 1)
	large(t, "let", e, let(a, nested(deep), body), 1)
	small := variable(1000)
	for i := range 1000 {
		small = lam(a, app(variable(999-i), small))
	}
	large(t, "function of fewer places", e, app(lam(a, small), long(a, 1<<16)), 1)
}

// A rule puts in likewise: parameters and arguments for what stands in a constructor's type.
func TestP14_1ManyPlacesOfARule(t *testing.T) {
	const products = 600
	a, huge := constant("a"), long(constant("a"), 1<<16)
	// Each of the products has the innermost variable around them all: a parameter, or an argument behind it.
	for args := range 2 {
		deep := app(constant("fam"), variable(products+args))
		for i := range products {
			deep = pi(variable(products-1-i), deep)
		}
		con := pi(deep, app(constant("fam"), variable(1+args)))
		for range args + 1 {
			con = pi(a, con)
		}
		e := with(t, known(t), api.Decl{Kind: api.DFamily, Name: "fam", Type: pi(a, a), Family: api.Family{Params: 1, Cons: []api.Con{{Name: "c", Type: con}}}})
		of := func(param, first *api.Term) *api.Term {
			return apply(rec("fam.rec", 0), param, a, a, apply(constant("c"), []*api.Term{a, first, a}[:2+args]...))
		}
		if got, _, more, err := whnf.Step(e, of(a, a), 1); term.Size(got) < 4*products || !more || err != nil {
			t.Errorf("%d: %d nodes, %v, %v", args, term.Size(got), more, err)
		}
		large(t, "a parameter", e, of(huge, a), 1)
		large(t, "an argument", e, of(a, huge), 1)
	}
}

// As many majors in one another as are promised for.
func TestP14_1DeepMajors(t *testing.T) {
	const deep = 1 << 16
	e := known(t)
	stuck, want, ends := app(constant("id"), constant("a")), constant("a"), app(constant("id"), constant("o"))
	for range deep {
		stuck, want, ends = natRec(constant("z"), constant("st"), stuck), natRec(constant("z"), constant("st"), want), natRec(constant("o"), constant("st"), ends)
	}
	told(t, "stuck", e, stuck, want, 2, false)
	told(t, "stuck without a step", e, want, want, 0, false)
	told(t, "to its end", e, ends, constant("o"), deep+2, true)
	if got, left, err := whnf.Whnf(e, ends, deep+1); got != nil || left != 0 || !errors.Is(err, api.ErrFuel) {
		t.Errorf("less fuel: %d, %v", left, err)
	}
}

// A major may be a recursor by a step of its own, and that one's major, too: as many wait as there is fuel.
func TestP14_2MajorsByFuel(t *testing.T) {
	e := known(t)
	e = with(t, e, api.Decl{Kind: api.DDef, Name: "again", Type: sort(0), Value: natRec(constant("z"), constant("st"), constant("again"))})
	for _, fuel := range []int{api.MaxFuel, 1 << 18} {
		for _, x := range []*api.Term{constant("again"), of(t, "(fun x : a => nat.rec@0 P z st (x x)) (fun x : a => nat.rec@0 P z st (x x))")} {
			if got, left, err := whnf.Whnf(e, x, fuel); got != nil || left != 0 || !errors.Is(err, api.ErrFuel) {
				t.Errorf("%d: %d, %v", fuel, left, err)
			}
		}
	}
}

// shared is a term with so many nodes one above the other, each of which has the one below it twice.
func shared(deep int, last *api.Term) *api.Term {
	t := last
	for range deep {
		t = app(t, t)
	}
	return t
}

// What is shared can't be unfolded, but what comes of it needn't be.
func TestP14_1Shared(t *testing.T) {
	e, a := known(t), constant("a")
	for _, deep := range []int{4, 13, 60, 1000} {
		x, y := shared(deep, variable(1)), shared(deep, sort(1))
		told(t, "stuck", e, app(a, x), app(a, x), 0, false)
		told(t, "stuck in itself", e, x, x, 0, false)
		told(t, "left out", e, app(lam(x, a), y), a, 1, true)
		told(t, "let", e, let(x, y, a), a, 1, true)
		told(t, "beside a major", e, natRec(x, y, app(constant("id"), a)), natRec(x, y, a), 2, false)
		told(t, "minor", e, natRec(a, y, constant("o")), a, 1, true)
		if deep < 11 {
			told(t, "put in", e, app(lam(a, app(a, variable(0))), x), app(a, x), 1, true)
			told(t, "around", e, app(lam(a, app(a, shared(deep, variable(1)))), y), app(a, shared(deep, variable(0))), 1, true)
			continue
		}
		large(t, "put in", e, app(lam(a, app(a, variable(0))), x), 1)
		large(t, "around", e, app(lam(a, x), a), 1)
		large(t, "let in", e, let(a, y, variable(0)), 1)
		large(t, "minor in a rule", e, natRec(y, a, app(constant("s"), a)), 1)
		large(t, "behind", e, apply(lam(a, a), a, x), 1)
		large(t, "definition", with(t, e, api.Decl{Kind: api.DDef, Name: "large", Type: a, Value: y}), constant("large"), 1)
	}
}

// rounds are terms that hang on themselves: they have no end; a call has.
func rounds() []*api.Term {
	product, function, applied, argument := pi(nil, nil), lam(sort(0), nil), app(nil, constant("f")), app(constant("f"), nil)
	product.A, product.B = product, product
	function.B = function
	applied.A = applied
	argument.B = argument
	major := natRec(constant("z"), constant("st"), nil)
	major.B = major
	further := natRec(constant("z"), constant("st"), app(nil, constant("a")))
	further.B.A = further
	redex := app(lam(constant("a"), app(variable(0), variable(0))), nil)
	redex.B = redex
	bound := let(nil, nil, variable(0))
	bound.A, bound.B = bound, bound
	whole := let(sort(0), sort(0), nil)
	whole.C = whole
	return []*api.Term{product, function, applied, argument, major, further, redex, bound, whole}
}

func TestP14_1WithoutEnd(t *testing.T) {
	e := known(t)
	for i, x := range rounds() {
		e := with(t, e, api.Decl{Kind: api.DDef, Name: "round", Type: sort(0), Value: x})
		e = with(t, e, api.Decl{Kind: api.DFamily, Name: "fam", Type: sort(0), Family: api.Family{Cons: []api.Con{{Name: "c", Type: x}, {Name: "d", Type: pi(x, constant("fam"))}}}})
		for _, y := range []*api.Term{
			x, app(x, x), constant("round"), app(lam(x, x), x), let(x, x, x), natRec(x, x, x), natRec(x, x, constant("o")), natRec(x, x, app(constant("s"), x)),
			apply(rec("fam.rec", 0), x, x, x, x), apply(rec("fam.rec", 0), x, x, x, constant("c")), apply(rec("fam.rec", 0), x, x, x, app(constant("d"), x)),
		} {
			if got, left, _, err := whnf.Step(e, y, 1); (got == nil) != (err != nil) || left < 0 || left > 1 {
				t.Errorf("round %d: Step: %d, %v", i, left, err)
			}
			if got, left, err := whnf.Whnf(e, y, 20); (got == nil) != (err != nil) || left < 0 || left > 20 {
				t.Errorf("round %d: Whnf: %d, %v", i, left, err)
			}
		}
	}
}

// Only a constant is a definition, a recursor or a constructor, whatever other nodes have that no term has.
func TestP14_1NoConstant(t *testing.T) {
	e := known(t)
	for _, kind := range []int{-1, 0, api.TSort, api.TVar, api.TPi, 8} {
		named := func(name string) *api.Term { return &api.Term{Kind: kind, Name: name} }
		for _, x := range []*api.Term{named("one"), apply(named("nat.rec"), sort(0), sort(0), sort(0), constant("one")), natRec(sort(0), sort(0), named("o"))} {
			told(t, "no constant", e, x, x, 0, false)
		}
	}
}

// Whatever is handed in, there is an answer.
func TestP14_1WhatIsNot(t *testing.T) {
	no := &api.Term{Kind: 9, N: -5, Name: "no name", A: pi(nil, nil), B: app(nil, nil), C: variable(-1)}
	terms := []*api.Term{nil, no, {}, variable(math.MinInt), variable(math.MaxInt), sort(-1), constant(""), rec("odd.rec", -1), constant("odd"), constant("c"), constant("empty"), lam(nil, nil), pi(nil, nil), app(nil, nil), let(nil, nil, nil), lam(nil, variable(0)), {Kind: api.TApp, C: no}}
	numbers := []int{math.MinInt, -1, 0, 1, 2, math.MaxInt - 2, math.MaxInt}
	for _, params := range numbers {
		for _, indices := range numbers {
			e := with(t, known(t), api.Decl{Kind: api.DDef, Name: "empty", Type: sort(0)})
			e = with(t, e, api.Decl{Kind: api.DFamily, Name: "odd", Type: sort(0), Family: api.Family{Params: params, Indices: indices, Cons: []api.Con{{Name: "c"}, {Name: "c", Type: sort(0)}, {Name: "", Type: constant("odd")}}}})
			for _, f := range terms {
				for _, x := range terms {
					for _, y := range []*api.Term{f, app(f, x), apply(rec("odd.rec", 0), f, x, f, x, f), apply(rec("odd.rec", 0), x, x, x, f, x, x, f, x), let(f, x, f), app(lam(x, f), x), natRec(f, x, f)} {
						whnf.Step(e, y, 2)
						whnf.Whnf(e, y, 3)
					}
				}
			}
		}
	}
}
