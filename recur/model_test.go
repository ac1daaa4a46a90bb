package recur_test

import (
	"fmt"
	"math/rand"
	"slices"
	"strconv"
	"testing"

	"vademecum/api"
	"vademecum/recur"
	"vademecum/shift"
)

func lifted(t *api.Term, by int) *api.Term { return shift.Lift(t, by, 0) }

func putAll(t *api.Term, l []*api.Term) *api.Term { return shift.All(t, l...) }

// binder: who binds a variable. Two are the same only if they are one.
type binder struct{ _ int }

// named is a term whose variables tell who binds them, and no number: nothing in it has to be moved.
type named struct {
	node    api.Term
	by      *binder
	a, b, c *named
}

// bound is a binder with the type of its variable.
type bound struct {
	by *binder
	of *named
}

func nameOf(by *binder) *named { return &named{node: api.Term{Kind: api.TVar}, by: by} }

func namedConst(name string, n int) *named {
	return &named{node: api.Term{Kind: api.TConst, Name: name, N: n}}
}

// names are the variables of a row.
func names(l []bound) []*named {
	var m []*named
	for _, x := range l {
		m = append(m, nameOf(x.by))
	}
	return m
}

func applied(f *named, l ...*named) *named {
	for _, x := range l {
		f = &named{node: api.Term{Kind: api.TApp}, a: f, b: x}
	}
	return f
}

// under puts binders of a Kind around a term.
func under(kind int, l []bound, t *named) *named {
	for _, x := range slices.Backward(l) {
		t = &named{node: api.Term{Kind: kind}, by: x.by, a: x.of, b: t}
	}
	return t
}

// with is a row with one more, the innermost.
func with(l []*binder, b *binder) []*binder { return append(slices.Clone(l), b) }

// number tells a named term by numbers, under a row of binders.
func (x *named) number(l []*binder) *api.Term {
	if x == nil {
		return nil
	}
	t := x.node
	inB, inC := l, l
	switch t.Kind {
	case api.TVar:
		t.N = len(l) - 1 - slices.Index(l, x.by)
	case api.TPi, api.TLam:
		inB = with(l, x.by)
	case api.TLet:
		inC = with(l, x.by)
	}
	t.A, t.B, t.C = x.a.number(l), x.b.number(inB), x.c.number(inC)
	return &t
}

// put is a named term with others in the place of some variables.
func (x *named) put(instead map[*binder]*named) *named {
	if x == nil {
		return nil
	}
	if u := instead[x.by]; u != nil && x.node.Kind == api.TVar {
		return u
	}
	return &named{x.node, x.by, x.a.put(instead), x.b.put(instead), x.c.put(instead)}
}

// model is a family of named terms.
type model struct {
	params, indices []bound
	cons            []modelCon
}

// modelCon is a constructor: its arguments, and what the family is applied to at the end, behind the parameters.
type modelCon struct {
	name string
	args []bound
	ends []*named
}

func (m model) family(ends ...*named) *named {
	return applied(namedConst("f", 0), slices.Concat(names(m.params), ends)...)
}

func (m model) decl() api.Decl {
	row := slices.Concat(m.params, m.indices)
	d := api.Decl{Kind: api.DFamily, Name: "f", Family: api.Family{Params: len(m.params), Indices: len(m.indices), Sort: 1}}
	d.Type = under(api.TPi, row, &named{node: api.Term{Kind: api.TSort, N: 1}}).number(nil)
	for _, c := range m.cons {
		whole := under(api.TPi, slices.Concat(m.params, c.args), m.family(c.ends...))
		d.Family.Cons = append(d.Family.Cons, api.Con{Name: c.name, Type: whole.number(nil)})
	}
	return d
}

// deep tells what an argument is: its own binders, and what the family is applied to behind so many parameters.
func deep(a *named, params int) ([]bound, []*named, bool) {
	var own []bound
	for a.node.Kind == api.TPi {
		own = append(own, bound{a.by, a.a})
		a = a.b
	}
	var l []*named
	for a.node.Kind == api.TApp {
		l = append(namedList(a.b), l...)
		a = a.a
	}
	if a.node.Kind != api.TConst || a.node.Name != "f" || len(l) < params {
		return nil, nil, false
	}
	return own, l[params:], true
}

func namedList(l ...*named) []*named { return l }

// typ is the recursor's type.
func (m model) typ(sort int) *api.Term {
	motive, major := &binder{}, bound{&binder{}, m.family(names(m.indices)...)}
	p := nameOf(motive)
	into := &named{node: api.Term{Kind: api.TSort, N: sort}}
	row := append(slices.Clone(m.params), bound{motive, under(api.TPi, append(slices.Clone(m.indices), major), into)})
	for _, c := range m.cons {
		l := slices.Clone(c.args)
		for _, arg := range c.args {
			if own, ends, ok := deep(arg.of, len(m.params)); ok {
				claim := applied(applied(p, ends...), applied(nameOf(arg.by), names(own)...))
				l = append(l, bound{&binder{}, under(api.TPi, own, claim)})
			}
		}
		con := applied(namedConst(c.name, 0), names(slices.Concat(m.params, c.args))...)
		row = append(row, bound{&binder{}, under(api.TPi, l, applied(applied(p, c.ends...), con))})
	}
	row = append(append(row, m.indices...), major)
	return under(api.TPi, row, applied(p, names(append(slices.Clone(m.indices), major))...)).number(nil)
}

// rule is what the recursor comes to of a constructor; all that is handed in is under a row of binders.
func (m model) rule(sort, k int, params []*named, p *named, minors, args []*named, l []*binder) *api.Term {
	instead := map[*binder]*named{}
	for i, x := range m.params {
		instead[x.by] = params[i]
	}
	for i, x := range m.cons[k].args {
		instead[x.by] = args[i]
	}
	f := applied(minors[k], args...)
	for _, arg := range m.cons[k].args {
		own, ends, ok := deep(arg.of, len(m.params))
		if !ok {
			continue
		}
		again := applied(namedConst("f.rec", sort), slices.Concat(params, namedList(p), minors, ends, namedList(applied(nameOf(arg.by), names(own)...)))...)
		f = applied(f, under(api.TLam, own, again).put(instead))
	}
	return f.number(l)
}

// random is a named term of so many nodes at most, under a row of binders.
func random(r *rand.Rand, nodes int, l []*binder) *named {
	if nodes < 3 || r.Intn(8) == 0 {
		if len(l) > 0 && r.Intn(3) > 0 {
			return nameOf(l[r.Intn(len(l))])
		}
		if r.Intn(4) == 0 {
			return &named{node: api.Term{Kind: api.TSort, N: r.Intn(10)}}
		}
		return namedConst([]string{"a", "b", "f", "nat.f"}[r.Intn(4)], 0)
	}
	left := 1 + r.Intn(nodes-2)
	a, by := random(r, left, l), &binder{}
	switch r.Intn(7) {
	case 0:
		return &named{node: api.Term{Kind: api.TLet}, by: by, a: a, b: random(r, 2, l), c: random(r, nodes-1-left, with(l, by))}
	case 1:
		return &named{node: api.Term{Kind: api.TLam}, by: by, a: a, b: random(r, nodes-1-left, with(l, by))}
	case 2, 3:
		return &named{node: api.Term{Kind: api.TPi}, by: by, a: a, b: random(r, nodes-1-left, with(l, by))}
	}
	return applied(a, random(r, nodes-1-left, l))
}

// randoms are so many random named terms.
func randoms(r *rand.Rand, n int, l []*binder) []*named {
	var m []*named
	for range n {
		m = append(m, random(r, 1+r.Intn(9), l))
	}
	return m
}

// randomRow is a row of so many random types, each under those ahead, and the row of all binders.
func randomRow(r *rand.Rand, n int, l []*binder) ([]bound, []*binder) {
	var row []bound
	for range n {
		x := bound{&binder{}, random(r, 1+r.Intn(9), l)}
		row, l = append(row, x), with(l, x.by)
	}
	return row, l
}

func randomModel(r *rand.Rand) model {
	var m model
	var l []*binder
	m.params, l = randomRow(r, r.Intn(4), nil)
	m.indices, _ = randomRow(r, r.Intn(4), l)
	for k := range r.Intn(5) {
		c, in := modelCon{name: "c" + strconv.Itoa(k)}, l
		for range r.Intn(5) {
			arg := bound{&binder{}, random(r, 1+r.Intn(9), in)}
			if r.Intn(2) == 0 {
				own, within := randomRow(r, r.Intn(3), in)
				arg.of = under(api.TPi, own, m.family(randoms(r, len(m.indices), within)...))
			}
			c.args, in = append(c.args, arg), with(in, arg.by)
		}
		c.ends = randoms(r, len(m.indices), in)
		m.cons = append(m.cons, c)
	}
	return m
}

// numbers tells named terms by numbers, all under one row of binders.
func numbers(l []*named, row []*binder) []*api.Term {
	var m []*api.Term
	for _, x := range l {
		m = append(m, x.number(row))
	}
	return m
}

// rowNumbers tells a row of named types by numbers, each under those ahead.
func rowNumbers(l []bound, row []*binder) []*api.Term {
	var m []*api.Term
	for _, x := range l {
		m = append(m, x.of.number(row))
		row = with(row, x.by)
	}
	return m
}

// bindersOf are the binders of a row.
func bindersOf(l []bound) []*binder {
	var m []*binder
	for _, x := range l {
		m = append(m, x.by)
	}
	return m
}

// checkArgs holds what is told of a constructor and of its arguments against the model.
func checkArgs(t *testing.T, m model, d api.Decl, k int) {
	t.Helper()
	c, l := m.cons[k], bindersOf(m.params)
	args, ends := recur.Args(d, k)
	are(t, "arguments", args, rowNumbers(c.args, l))
	are(t, "ends", ends, numbers(c.ends, slices.Concat(l, bindersOf(c.args))))
	for i, a := range args {
		in := slices.Concat(l, bindersOf(c.args[:i]))
		own, want, is := deep(c.args[i].of, len(m.params))
		n, ends, ok := recur.Deep(d, a)
		if n != len(own) || ok != is {
			t.Errorf("argument %d: %d, %v, want %d, %v", i, n, ok, len(own), is)
		}
		are(t, "what Deep says", ends, numbers(want, slices.Concat(in, bindersOf(own))))
	}
}

// checkRule holds a constructor's rule against the model, and against its minor's type.
func checkRule(t *testing.T, r *rand.Rand, m model, d api.Decl, k int) {
	t.Helper()
	around := []*binder{{}, {}, {}, {}, {}}
	p := random(r, 5, around)
	params, minors, args := randoms(r, len(m.params), around), randoms(r, len(m.cons), around), randoms(r, len(m.cons[k].args), around)
	into := r.Intn(10)
	got := recur.Rule(d, into, k, numbers(params, around), p.number(around), numbers(minors, around), numbers(args, around))
	is(t, "rule", got, m.rule(into, k, params, p, minors, args, around))
	agree(t, d, k, numbers(params, around), p.number(around), numbers(minors, around), numbers(args, around))
}

func TestP13_4Random(t *testing.T) {
	r := rand.New(rand.NewSource(13))
	for range 1200 {
		m := randomModel(r)
		d := m.decl()
		before := fmt.Sprint(dump(d.Type), d.Name, d.Family)
		into := r.Intn(10)
		is(t, "type", recur.Type(d, into), m.typ(into))
		for k := range m.cons {
			checkArgs(t, m, d, k)
			checkRule(t, r, m, d, k)
		}
		if fmt.Sprint(dump(d.Type), d.Name, d.Family) != before {
			t.Error("changed")
		}
		if t.Failed() {
			t.Fatal(before)
		}
	}
}

// every is each term of so many nodes at most, of few leaves.
func every(nodes int) []*api.Term {
	l := list(variable(0), constant("f"))
	for left := 1; left < nodes-1; left++ {
		for _, a := range every(left) {
			for _, b := range every(nodes - 1 - left) {
				l = append(l, pi(a, b), lam(a, b), app(a, b), let(a, b, constant("f")))
			}
		}
	}
	return l
}

// modelDeep is Deep told another way: by what is within the outermost product, or application.
func modelDeep(a *api.Term, params int) (int, []*api.Term, bool) {
	if a.Kind == api.TPi {
		n, l, ok := modelDeep(a.B, params)
		if !ok {
			return 0, nil, false
		}
		return n + 1, l, true
	}
	if l, ok := modelArguments(a); ok && len(l) >= params {
		return 0, l[params:], true
	}
	return 0, nil, false
}

// modelArguments tells what the family is applied to, and whether it is what is applied.
func modelArguments(a *api.Term) ([]*api.Term, bool) {
	if a.Kind == api.TApp {
		l, ok := modelArguments(a.A)
		return append(l, a.B), ok
	}
	return nil, a.Kind == api.TConst && a.Name == "f"
}

func TestP13_1EverySmallTerm(t *testing.T) {
	for _, a := range every(7) {
		for params := -1; params < 4; params++ {
			d := api.Decl{Name: "f", Family: api.Family{Params: params}}
			n, ends, ok := recur.Deep(d, a)
			wantN, want, wantOK := modelDeep(a, max(params, 0))
			if n != wantN || ok != wantOK {
				t.Fatalf("%s, %d parameters: %d, %v", dump(a), params, n, ok)
			}
			are(t, dump(a), ends, want)
		}
	}
}
