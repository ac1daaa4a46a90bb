package recur_test

import (
	"fmt"
	"math"
	"testing"

	"vademecum/api"
	"vademecum/recur"
	"vademecum/spine"
	"vademecum/term"
)

// one is a family of one constructor, without parameters and indices.
func one(con *api.Term) api.Decl {
	return api.Decl{Kind: api.DFamily, Name: "f", Type: sort(0), Family: api.Family{Cons: []api.Con{{Name: "c", Type: con}}}}
}

// told holds a large term against the one that it should be.
func told(t *testing.T, what string, got, want *api.Term) {
	t.Helper()
	if !term.Same(got, want) {
		t.Error(what + ": not the same")
	}
}

// As many parameters, indices, constructors and arguments as there may be, and one more: no limit is this layer's.
func TestP13_2AtTheLimits(t *testing.T) {
	for _, n := range []int{api.MaxArgs, api.MaxArgs + 1, 60} {
		m := model{}
		var l []*binder
		for i := range n {
			x := bound{&binder{}, namedConst("a", 0)}
			if i > 0 {
				x.of = applied(namedConst("g", 0), names(m.params)...)
			}
			m.params, l = append(m.params, x), with(l, x.by)
		}
		for range n {
			x := bound{&binder{}, applied(namedConst("h", 0), names(append(m.params, m.indices...))...)}
			m.indices = append(m.indices, x)
		}
		for k := range api.MaxCons + 1 {
			c := modelCon{name: fmt.Sprint("c", k)}
			for i := range n {
				x := bound{&binder{}, m.family(names(m.params)...)}
				if i%3 == 0 {
					x.of = applied(namedConst("k", 0), names(c.args)...)
				}
				c.args = append(c.args, x)
			}
			c.ends = names(c.args)
			m.cons = append(m.cons, c)
		}
		d := m.decl()
		told(t, "type", recur.Type(d, 3), m.typ(3))
		args, ends := recur.Args(d, api.MaxCons)
		if len(args) != n || len(ends) != n {
			t.Errorf("%d: %d arguments, %d ends", n, len(args), len(ends))
		}
		around := []*binder{{}, {}}
		l2 := func(n int) []*named {
			return names(append(make([]bound, 0), bound{around[0], nil}, bound{around[1], nil}))[:min(n, 2)]
		}
		many := func(n int) []*named {
			var m []*named
			for len(m) < n {
				m = append(m, l2(n-len(m))...)
			}
			return m
		}
		got := recur.Rule(d, 3, 7, numbers(many(n), around), numbers(many(1), around)[0], numbers(many(9), around), numbers(many(n), around))
		told(t, "rule", got, m.rule(3, 7, many(n), many(1)[0], many(9), many(n), around))
	}
}

// As many parts nested in one another as are promised for.
func TestP13_4Deep(t *testing.T) {
	const deep = 1 << 16
	x := constant("f")
	for range deep {
		x = pi(constant("a"), x)
	}
	n, ends, ok := recur.Deep(one(x), x)
	if n != deep || len(ends) != 0 || !ok {
		t.Fatalf("deep: %d, %d, %v", n, len(ends), ok)
	}
	args, _ := recur.Args(one(x), 0)
	if len(args) != deep {
		t.Fatalf("%d arguments", len(args))
	}
	parts, _ := spine.Pis(recur.Type(one(pi(x, constant("f"))), 0), 2)
	supposed := parts[1].B.A
	for i := range deep {
		if *supposed.A != *constant("a") {
			t.Fatalf("product %d: %s", i, dump(supposed.A))
		}
		supposed = supposed.B
	}
	f, args := spine.Head(supposed)
	is(t, "the motive", f, variable(deep+1))
	told(t, "the argument", args[0], spine.Apply(variable(deep), spine.Vars(deep, 0)...))
	got := recur.Rule(one(pi(x, constant("f"))), 0, 0, nil, variable(0), list(variable(1)), list(variable(2)))
	is(t, "the minor", got.A, app(variable(1), variable(2)))
	told(t, "the call", got.B, spine.Lam(typesOf(deep), spine.Apply(rec("f.rec", 0), variable(deep), variable(deep+1), spine.Apply(variable(deep+2), spine.Vars(deep, 0)...))))
}

// typesOf is a row of so many types.
func typesOf(n int) []*api.Term {
	l := make([]*api.Term, n)
	for i := range l {
		l[i] = constant("a")
	}
	return l
}

// A constructor of as many arguments as are promised for, each of which is Deep.
func TestP13_4ManyArguments(t *testing.T) {
	const many = 1 << 15
	x := constant("f")
	for range many {
		x = pi(constant("f"), x)
	}
	parts, _ := spine.Pis(recur.Type(one(x), 0), 2)
	l, end := spine.Pis(parts[1], math.MaxInt)
	if len(l) != 2*many {
		t.Fatalf("%d parts", len(l))
	}
	for i, a := range l {
		want := constant("f")
		if i >= many {
			want = app(variable(i), variable(many-1))
		}
		if dump(a) != dump(want) {
			t.Fatalf("part %d: %s", i, dump(a))
		}
	}
	told(t, "the end", end, app(variable(2*many), spine.Apply(constant("c"), spine.Vars(many, many)...)))
	f, args := spine.Head(recur.Rule(one(x), 0, 0, nil, constant("p"), list(constant("m")), spine.Vars(many, 0)))
	is(t, "the minor", f, constant("m"))
	for i, a := range args {
		want := variable(many - 1 - i)
		if i >= many {
			want = spine.Apply(rec("f.rec", 0), constant("p"), constant("m"), variable(2*many-1-i))
		}
		if dump(a) != dump(want) {
			t.Fatalf("argument %d: %s", i, dump(a))
		}
	}
}

// shared is a term with so many nodes one above the other, each of which has the one below it twice.
func shared(deep int, last *api.Term) *api.Term {
	t := last
	for range deep {
		t = app(t, t)
	}
	return t
}

// What is shared can't be unfolded, but what comes of it needn't be.
func TestP13_4Shared(t *testing.T) {
	for _, deep := range []int{4, 13, 60, 1000} {
		x, y := shared(deep, variable(0)), shared(deep, variable(1))
		d := api.Decl{Name: "f", Type: pi(sort(0), pi(x, sort(0))), Family: api.Family{Params: 1, Indices: 1}}
		d.Family.Cons = []api.Con{{Name: "c", Type: pi(sort(0), pi(x, pi(pi(y, app(app(constant("f"), variable(2)), shared(deep, variable(0)))), app(app(constant("f"), variable(2)), shared(deep, variable(1))))))}}
		args, ends := recur.Args(d, 0)
		told(t, "argument", args[0], x)
		told(t, "argument", args[1].A, y)
		told(t, "end", ends[0], shared(deep, variable(1)))
		n, ends, ok := recur.Deep(d, args[1])
		if n != 1 || !ok {
			t.Fatalf("%d, %v", n, ok)
		}
		told(t, "deep", ends[0], x)
		parts, _ := spine.Pis(recur.Type(d, 0), 9)
		told(t, "index", parts[3], shared(deep, variable(2)))
		minor, _ := spine.Pis(parts[2], 9)
		told(t, "supposed", minor[2], pi(shared(deep, variable(3)), app(app(variable(3), x), app(variable(1), variable(0)))))
		got := recur.Rule(d, 2, 0, list(x), x, list(y), list(x, y))
		told(t, "rule", got.B, lam(shared(2*deep, variable(0)), app(spine.Apply(rec("f.rec", 2), y, y, shared(deep, variable(2)), x), app(shared(deep, variable(2)), variable(0)))))
	}
}

// rounds are terms that hang on themselves: they have no end; a call has.
func rounds() []*api.Term {
	product, function, applied, argument := pi(nil, nil), lam(sort(0), nil), app(nil, constant("f")), app(constant("f"), nil)
	product.A, product.B = product, product
	function.B = function
	applied.A = applied
	argument.B = argument
	long := pi(constant("f"), nil)
	long.B = pi(argument, pi(product, long))
	return list(product, function, applied, argument, long)
}

func TestP13_4WithoutEnd(t *testing.T) {
	for i, x := range rounds() {
		con := pi(x, pi(constant("f"), app(constant("f"), x)))
		for _, d := range []api.Decl{
			{Type: x, Family: api.Family{Params: math.MaxInt, Cons: []api.Con{{Type: x}}}},
			{Type: x, Family: api.Family{Indices: math.MaxInt, Cons: []api.Con{{Type: con}}}},
			{Type: pi(x, sort(0)), Family: api.Family{Params: 1, Cons: []api.Con{{Type: con}}}},
		} {
			d.Name = "f"
			recur.Args(d, 0)
			recur.Deep(d, x)
			if recur.Type(d, 0) == nil || recur.Rule(d, 0, 0, list(x), x, list(x), list(x)) == nil {
				t.Errorf("row %d: nothing", i)
			}
		}
	}
}

// Whatever is handed in, there is an answer.
func TestP13_4WhatIsNot(t *testing.T) {
	no := &api.Term{Kind: 9, N: -5, Name: "no name", A: pi(nil, nil), B: app(nil, nil), C: variable(-1)}
	f := constant("f")
	terms := list(nil, no, f, pi(nil, f), pi(f, nil), pi(no, app(f, no)), app(nil, f), app(f, nil), pi(f, pi(f, app(app(f, variable(math.MaxInt)), variable(math.MinInt)))), &api.Term{Kind: api.TPi}, &api.Term{Kind: api.TApp})
	rows := [][]*api.Term{nil, list(nil), list(no, f), list(f, nil, no)}
	for _, typ := range terms {
		for _, con := range terms {
			for _, n := range []int{math.MinInt, -1, 0, 1, 2, 3, math.MaxInt} {
				for _, indices := range []int{math.MinInt, -1, 0, 1, math.MaxInt} {
					d := api.Decl{Kind: 7, Name: "f", Type: typ, Family: api.Family{Params: n, Indices: indices, Cons: []api.Con{{Type: con}, {Name: "..", Type: f}}}}
					recur.Args(d, 0)
					recur.Deep(d, con)
					if recur.Type(d, -1) == nil {
						t.Error("no type")
					}
					for i, row := range rows {
						recur.Rule(d, -1, i, row, con, rows[3-i], row)
						recur.Rule(d, -1, 0, row, con, rows[3-i], rows[3])
					}
				}
			}
		}
	}
}

// Only a constant is the family, whatever other nodes have that no term has.
func TestP13_1NoConstant(t *testing.T) {
	for _, kind := range []int{-1, 0, api.TSort, api.TVar, api.TLam, api.TLet, 8} {
		x := &api.Term{Kind: kind, Name: "f"}
		for _, a := range list(x, pi(x, x), app(x, x)) {
			n, ends, ok := recur.Deep(one(x), a)
			if n != 0 || len(ends) > 0 || ok {
				t.Errorf("%s: %d, %d, %v", dump(a), n, len(ends), ok)
			}
		}
	}
}

// What the family doesn't have isn't asked for: there are as many parameters and indices as its type has products.
func TestP13_2LessThanIsTold(t *testing.T) {
	d := api.Decl{Name: "f", Type: pi(sort(0), sort(1)), Family: api.Family{Params: 3, Indices: 2, Cons: []api.Con{{Name: "c", Type: constant("f")}}}}
	args, ends := recur.Args(d, 0)
	are(t, "arguments", args, nil)
	are(t, "ends", ends, nil)
	want := pi(sort(0), pi(pi(app(constant("f"), variable(0)), sort(2)), pi(app(variable(0), app(constant("c"), variable(1))), pi(app(constant("f"), variable(2)), app(variable(2), variable(0))))))
	is(t, "type", recur.Type(d, 2), want)
	d.Family.Params, d.Family.Indices = -4, -1
	want = pi(pi(constant("f"), sort(2)), pi(app(variable(0), constant("c")), pi(constant("f"), app(variable(2), variable(0)))))
	is(t, "type", recur.Type(d, 2), want)
}
