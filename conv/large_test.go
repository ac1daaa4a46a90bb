package conv_test

import (
	"errors"
	"math"
	"testing"

	"vademecum/api"
	"vademecum/conv"
	"vademecum/env"
	"vademecum/term"
)

// deep is as many parts in one another as are promised for.
const deep = 1 << 16

// chain is a stuck term of so many nodes, one or more than four, without variables around.
func chain(nodes int) *api.Term {
	t := constant("a")
	if nodes%2 == 0 {
		// A let has three parts, any other node none or two.
		return app(chain(nodes-5), let(t, t, t))
	}
	for range nodes / 2 {
		t = app(t, constant("a"))
	}
	return t
}

// natRec is nat's recursor, applied up to its major.
func natRec(z, st, major *api.Term) *api.Term {
	return apply(rec("nat.rec", 0), constant("P"), z, st, major)
}

// long is a term applied to so many others.
func long(f, x *api.Term, n int) *api.Term {
	for range n {
		f = app(f, x)
	}
	return f
}

// asked holds Conv of two terms against what it should tell, with the fuel that it takes and one more, and with one less.
func asked(t *testing.T, what string, e *env.Env, a, b *api.Term, up, want bool, took int) {
	t.Helper()
	if got, left, err := conv.Conv(e, a, b, up, took+1); got != want || left != 1 || err != nil {
		t.Errorf("%s, up %v: %v, 1 more than %d, %v; want %v", what, up, got, left, err, want)
	}
	if got, left, err := conv.Conv(e, a, b, up, took-1); got || left != 0 || !errors.Is(err, api.ErrFuel) {
		t.Errorf("%s, up %v: with one less: %v, %d, %v", what, up, got, left, err)
	}
}

// nest is a way to put terms in one another, and how much fuel each one takes ahead of the one in it, with that one, and behind it.
type nest struct {
	what        string
	around      func(t *api.Term) *api.Term
	took, after int
}

func nests() []nest {
	a := constant("a")
	return []nest{
		{"products", func(t *api.Term) *api.Term { return pi(a, t) }, 2, 0},
		{"products' types", func(t *api.Term) *api.Term { return pi(t, a) }, 1, 1},
		{"functions", func(t *api.Term) *api.Term { return lam(a, t) }, 1, 0},
		{"arguments", func(t *api.Term) *api.Term { return app(a, t) }, 1, 0},
		{"arguments of a variable", func(t *api.Term) *api.Term { return apply(variable(deep), a, t) }, 2, 0},
		{"arguments of a constructor", func(t *api.Term) *api.Term { return apply(constant("cons"), a, t, a) }, 2, 1},
		{"arguments in functions", func(t *api.Term) *api.Term { return lam(sort(0), app(a, t)) }, 2, 0},
		{"a major's arguments", func(t *api.Term) *api.Term { return natRec(a, a, app(a, t)) }, 5, 0},
		{"majors", func(t *api.Term) *api.Term { return natRec(a, a, t) }, 4, 0},
		{"minors", func(t *api.Term) *api.Term { return natRec(t, a, a) }, 2, 2},
	}
}

// put is a term within so many of a nest.
func (n nest) put(t *api.Term) *api.Term {
	for range deep {
		t = n.around(t)
	}
	return t
}

// As many parts in one another as are promised for: the same, with an end that comes to the same, or with one that doesn't.
func TestP15_1Deep(t *testing.T) {
	e, a := known(t), constant("a")
	for _, n := range nests() {
		for _, c := range []struct {
			a, b     *api.Term
			up, want bool
			took     int
		}{
			{n.put(variable(0)), n.put(variable(0)), false, true, 1},
			{n.put(variable(0)), n.put(variable(1)), false, false, n.took*deep + 1},
			{n.put(app(a, variable(0))), n.put(app(a, let(sort(0), variable(0), variable(0)))), false, true, (n.took+n.after)*deep + 3},
			{n.put(sort(1)), n.put(sort(2)), true, n.what == "products", n.took*deep + 1},
		} {
			if got, left, err := conv.Conv(e, c.a, c.b, c.up, c.took); got != c.want || left != 0 || err != nil {
				t.Errorf("%s by %d: %v, %d, %v; want %v", n.what, c.took, got, left, err, c.want)
			}
		}
	}
}

// A stuck recursor is told with its major reduced, which needn't be reduced, nor copied, for each one that is around it.
func TestP15_1DeepMajors(t *testing.T) {
	e := known(t)
	a, b := app(constant("id"), variable(0)), variable(0)
	for range deep {
		a, b = natRec(constant("z"), app(constant("id"), constant("st")), a), natRec(constant("z"), constant("st"), b)
	}
	asked(t, "majors", e, a, b, false, true, 1+2+deep*(3+2)+deep)
}

// As many functions in one another, against what is none.
func TestP15_1DeepFunctions(t *testing.T) {
	e := known(t)
	row, other := constant("f"), constant("f")
	for i := range deep {
		row, other = app(row, variable(deep-1-i)), app(other, variable(deep-1-i))
	}
	other = app(other.A, constant("f"))
	body, unlike, reduced := row, other, app(constant("id"), row)
	for range deep {
		body, unlike, reduced = lam(sort(0), body), lam(sort(0), unlike), lam(sort(0), reduced)
	}
	asked(t, "the same", e, body, constant("f"), false, true, 1+deep)
	asked(t, "the same, the other way round", e, constant("f"), body, false, true, 1+deep)
	asked(t, "unlike", e, unlike, constant("f"), false, false, 1+deep+deep)
	asked(t, "unlike, the other way round", e, constant("f"), unlike, false, false, 1+deep+deep)
	if got, left, err := conv.Conv(e, reduced, constant("f"), false, 10*deep); got || left != 0 || !errors.Is(err, api.ErrLarge) {
		t.Errorf("reduced: %v, %d, %v", got, left, err)
	}
}

// A row as long as there may be parts.
func TestP15_1Long(t *testing.T) {
	e, one := known(t), constant("one")
	asked(t, "the same", e, long(constant("f"), one, deep), long(constant("f"), one, deep), false, true, 1)
	asked(t, "not as long", e, long(constant("f"), one, deep), long(constant("f"), one, deep-1), false, false, 1)
	asked(t, "the first one", e, app(long(app(constant("f"), one), one, deep), constant("u")), app(long(app(constant("f"), constant("v")), one, deep), constant("w")), false, false, 3)
	asked(t, "the last one", e, app(long(constant("f"), one, deep), one), app(long(constant("f"), one, deep), app(constant("s"), constant("o"))), false, true, 1+deep+3)
	asked(t, "each one", e, long(constant("f"), one, deep), long(constant("f"), app(constant("s"), constant("o")), deep), false, true, 1+3*deep)
}

// What comes in may be larger than a term may be; only what comes of a step may not.
func TestP15_1AtTheLimit(t *testing.T) {
	e := known(t)
	for n := api.MaxNodes - 1; n <= api.MaxNodes+2; n++ {
		e := defined(t, e, "large", chain(n))
		compared(t, e, chain(n), chain(n), false, true, 1)
		compared(t, e, lam(sort(0), app(chain(n), variable(0))), chain(n), false, true, 2)
		if n <= api.MaxNodes {
			asked(t, "definition", e, constant("large"), chain(n), true, true, 2+len(argsOf(chain(n))))
			asked(t, "function", e, app(constant("id"), chain(n-4)), chain(n-4), false, true, 3+len(argsOf(chain(n-4))))
			continue
		}
		for _, c := range [][2]*api.Term{{constant("large"), chain(n)}, {chain(n), constant("large")}, {app(constant("id"), chain(n)), chain(n)}, {natRec(sort(0), sort(0), constant("large")), constant("o")}} {
			if got, left, err := conv.Conv(e, c[0], c[1], true, 50); got || left != 0 || !errors.Is(err, api.ErrLarge) {
				t.Errorf("%d nodes: %v, %d, %v", n, got, left, err)
			}
		}
	}
}

// Large terms are the same only where all of each node is.
func TestP15_1LargeUnlike(t *testing.T) {
	e, x := known(t), nested(deep)
	odd := func(t api.Term) *api.Term { return &t }
	for i, c := range [][2]*api.Term{
		{pi(sort(0), x), lam(sort(0), x)},
		{app(constant("f"), x), pi(constant("f"), x)},
		{odd(api.Term{Kind: 9, A: x}), odd(api.Term{Kind: 8, A: x})},
		{odd(api.Term{Kind: 9, A: x}), odd(api.Term{Kind: 9, B: x})},
		{odd(api.Term{Kind: 9, A: x}), odd(api.Term{Kind: 9, A: x, B: variable(0)})},
		{odd(api.Term{Kind: 9, A: x}), odd(api.Term{Kind: 9, A: x, C: variable(0)})},
		{odd(api.Term{Kind: 9, A: x}), odd(api.Term{Kind: 9, A: x, N: 1})},
		{odd(api.Term{Kind: 9, A: x}), odd(api.Term{Kind: 9, A: x, Name: "a"})},
		{odd(api.Term{Kind: 9, A: x}), odd(api.Term{Kind: 9, A: nested(deep - 1)})},
		{x, nil},
		{x, variable(0)},
		{app(constant("a"), x), constant("a")},
	} {
		for _, up := range []bool{false, true} {
			if got, _, err := conv.Conv(e, app(constant("f"), c[0]), app(constant("f"), c[1]), up, 10*deep); got || err != nil {
				t.Errorf("row %d: %v, %v", i, got, err)
			}
			if got, _, err := conv.Conv(e, c[1], c[0], up, 10*deep); got || err != nil {
				t.Errorf("row %d, the other way round: %v, %v", i, got, err)
			}
			if got, left, err := conv.Conv(e, c[0], c[0], up, 1); !got || left != 0 || err != nil {
				t.Errorf("row %d, itself: %v, %v", i, got, err)
			}
		}
	}
}

// nested is so many functions in one another, around a variable around them.
func nested(levels int) *api.Term {
	t := variable(levels)
	for range levels {
		t = lam(constant("a"), t)
	}
	return t
}

// argsOf are a term's arguments, the last one first.
func argsOf(t *api.Term) []*api.Term {
	var l []*api.Term
	for ; t.Kind == api.TApp; t = t.A {
		l = append(l, t.B)
	}
	return l
}

// shared is a term with so many nodes one above the other, each of which has the one below it twice.
func shared(levels int, last *api.Term) *api.Term {
	t := last
	for range levels {
		t = apply(constant("f"), t, t)
	}
	return t
}

// unfolded is a term of which nothing is shared.
func unfolded(t *api.Term) *api.Term {
	if t == nil {
		return nil
	}
	return &api.Term{Kind: t.Kind, N: t.N, Name: t.Name, A: unfolded(t.A), B: unfolded(t.B), C: unfolded(t.C)}
}

// What is shared can't be unfolded, but is told to be the same, or not to be, as far as there is fuel.
func TestP15_1Shared(t *testing.T) {
	e := known(t)
	for _, levels := range []int{4, 13, 60, 1000} {
		x := shared(levels, variable(1))
		asked(t, "the same", e, x, shared(levels, variable(1)), false, true, 1)
		asked(t, "beside what is the same", e, apply(constant("f"), x, constant("one")), apply(constant("f"), shared(levels, variable(1)), constant("one")), false, true, 1)
		asked(t, "around what comes to the same", e, apply(constant("f"), x, constant("one")), apply(constant("f"), shared(levels, variable(1)), app(constant("s"), constant("o"))), false, true, 5)
		asked(t, "unlike", e, x, shared(levels, variable(0)), false, false, levels+1)
		asked(t, "another head", e, x, app(constant("P"), x), false, false, 1)
		asked(t, "function", e, lam(sort(0), apply(variable(1), shared(levels, variable(2)), variable(0))), app(variable(0), x), false, true, 2)
		if levels < 15 {
			own, last := unfolded(x), unfolded(x)
			end := last
			for end.Kind == api.TApp {
				end = end.B
			}
			end.N = 0
			asked(t, "unfolded", e, x, own, false, true, 1)
			asked(t, "unfolded, the other way round", e, own, x, false, true, 1)
			asked(t, "the last one", e, x, last, false, false, 1+2*levels)
			asked(t, "the last one, the other way round", e, last, x, false, false, 1+2*levels)
			asked(t, "each one", e, x, shared(levels, app(constant("id"), variable(1))), false, true, 1<<levels-1+3<<levels)
			continue
		}
		for _, fuel := range []int{1, 2, levels, api.MaxFuel} {
			if got, left, err := conv.Conv(e, x, shared(levels, app(constant("id"), variable(1))), false, fuel); got || left != 0 || !errors.Is(err, api.ErrFuel) {
				t.Errorf("%d by %d: %v, %d, %v", levels, fuel, got, left, err)
			}
		}
	}
}

// rounds are terms that hang on themselves: they have no end; a call has.
func rounds() []*api.Term {
	product, function, applied, argument := pi(nil, nil), lam(sort(0), nil), app(nil, constant("f")), app(constant("f"), nil)
	product.A, product.B = product, product
	function.B = function
	applied.A = applied
	argument.B = argument
	major := natRec(constant("z"), constant("st"), nil)
	major.B = major
	further := lam(constant("a"), pi(sort(1), nil))
	further.B.B = further
	redex := app(lam(constant("a"), app(variable(0), variable(0))), nil)
	redex.B = redex
	bound := let(nil, nil, variable(0))
	bound.A, bound.B = bound, bound
	whole := let(sort(0), sort(0), nil)
	whole.C = whole
	opened := lam(constant("a"), app(nil, variable(0)))
	opened.B.A = opened
	return []*api.Term{product, function, applied, argument, major, further, redex, bound, whole, opened}
}

func TestP15_1WithoutEnd(t *testing.T) {
	e, l, others := known(t), rounds(), rounds()
	for i, x := range l {
		for _, a := range []*api.Term{x, app(x, x), lam(x, pi(x, x)), natRec(x, x, app(constant("id"), variable(0)))} {
			for j := range 2 {
				b := others[(i+3*j)%len(l)]
				got, left, err := conv.Conv(e, a, b, j == 1, 40)
				if err != nil && (got || left != 0) || left < 0 || left >= 40 {
					t.Errorf("rounds %d, %d: %v, %d, %v", i, j, got, left, err)
				}
				if want := term.Same(a, b); want && (!got || left != 39) {
					t.Errorf("rounds %d, %d: %v, %d, %v; they are the same", i, j, got, left, err)
				}
			}
		}
	}
	// As far as there is fuel; of functions that have no end, whatever there is.
	function, other := l[1], l[0]
	for _, fuel := range []int{api.MaxFuel, 1 << 20, math.MaxInt} {
		for _, x := range []*api.Term{constant("f"), app(variable(1), variable(0)), other} {
			if got, left, err := conv.Conv(e, function, x, true, fuel); got || left != 0 || !errors.Is(err, api.ErrFuel) {
				t.Errorf("a function without an end by %d: %v, %d, %v", fuel, got, left, err)
			}
		}
	}
}

// odd are terms of which nodes aren't what a term's are.
func odd() []*api.Term {
	no := &api.Term{Kind: 9, N: -5, Name: "no name", A: pi(nil, nil), B: app(nil, nil), C: variable(-1)}
	return []*api.Term{
		nil, no, {}, {Kind: -1}, variable(math.MinInt), variable(math.MaxInt), variable(-1), sort(-1), sort(math.MinInt), sort(math.MaxInt), constant(""), rec("odd.rec", -1), constant("odd"), constant("c"), constant("empty"), constant("one"), rec("one", 3),
		lam(nil, nil), pi(nil, nil), pi(nil, sort(2)), app(nil, nil), let(nil, nil, nil), lam(nil, variable(0)), lam(nil, app(constant("odd"), variable(0))), lam(nil, app(nil, variable(0))),
		{Kind: api.TApp, C: no}, {Kind: api.TSort, N: 2, Name: "two"}, {Kind: api.TSort, N: 1, A: no}, {Kind: api.TVar, Name: "odd"}, {Kind: api.TVar, Name: "odd", B: no}, {Kind: api.TConst, Name: "odd", C: no},
		app(&api.Term{Kind: api.TVar, Name: "odd.rec"}, constant("one")), app(variable(0), app(constant("s"), constant("o"))), {Kind: api.TApp, N: 1, A: constant("odd"), B: variable(0)}, {Kind: api.TLam, N: 4, A: sort(0), B: &api.Term{Kind: api.TApp, N: 1, A: constant("odd"), B: variable(0)}},
	}
}

// Whatever is handed in, there is an answer, and the one that the words tell.
func TestP15_1WhatIsNot(t *testing.T) {
	numbers := []int{math.MinInt, -1, 0, 1, 2, math.MaxInt - 2, math.MaxInt}
	l := odd()
	for _, params := range numbers {
		for _, indices := range numbers {
			e := defined(t, known(t), "empty", nil)
			e = with(t, e, api.Decl{Kind: api.DFamily, Name: "odd", Type: sort(0), Family: api.Family{Params: params, Indices: indices, Cons: []api.Con{{Name: "c"}, {Name: "c", Type: sort(0)}, {Name: "", Type: constant("odd")}}}})
			for i, a := range l {
				agree(t, e, apply(rec("odd.rec", 0), a, a, a, a, a, a), apply(rec("odd.rec", 0), a, app(constant("id"), a), a, a, app(constant("id"), a), a), false, 40)
				for j, b := range l {
					if (i+j)%7 == 0 {
						agree(t, e, apply(rec("odd.rec", 0), a, b, a, b, a), apply(rec("odd.rec", 0), a, app(constant("id"), b), a, b, app(constant("id"), a)), true, 40)
					}
				}
			}
		}
	}
	e := known(t)
	// A recursor is a constant.
	for kind := -1; kind < 9; kind++ {
		f := &api.Term{Kind: kind, Name: "nat.rec"}
		agree(t, e, apply(f, sort(0), sort(0), sort(0), constant("one")), apply(f, sort(0), sort(0), sort(0), app(constant("s"), constant("o"))), false, 40)
	}
	for _, a := range l {
		for _, b := range l {
			for _, up := range []bool{false, true} {
				agree(t, e, a, b, up, 9)
				agree(t, e, app(constant("f"), a), app(constant("f"), b), up, 9)
				agree(t, e, pi(a, b), pi(app(constant("id"), a), b), up, 20)
				agree(t, e, pi(sort(0), a), pi(sort(0), b), up, 20)
				agree(t, e, lam(a, b), lam(b, a), up, 9)
				agree(t, e, lam(sort(0), a), b, up, 9)
				agree(t, e, b, lam(sort(0), lam(sort(0), a)), up, 9)
				agree(t, e, lam(sort(0), app(a, variable(0))), b, up, 9)
			}
		}
	}
}
