package infer_test

import (
	"errors"
	"math/rand"
	"testing"

	"vademecum/api"
	"vademecum/conv"
	"vademecum/env"
	"vademecum/infer"
	"vademecum/recur"
	"vademecum/shift"
	"vademecum/term"
	"vademecum/whnf"
)

// numberOf is an error's number.
func numberOf(err error) api.Errno {
	var errno api.Errno
	errors.As(err, &errno)
	return errno
}

// model is P16.1 word by word: each value of a let is put into all that is behind it, each argument into the whole type, and each part is asked as it stands then.
type model struct {
	env  *env.Env
	fuel int
}

func (m *model) infer(ctx []*api.Term, t *api.Term) (*api.Term, error) {
	if m.fuel <= 0 {
		return nil, api.ErrFuel
	}
	m.fuel--
	switch kindOf(t) {
	case api.TSort:
		if t.N >= api.MaxSort {
			return nil, api.ErrSort
		}
		return sort(t.N + 1), nil
	case api.TVar:
		if t.N < 0 || t.N >= len(ctx) {
			return nil, api.ErrVar
		}
		return shift.Lift(ctx[len(ctx)-1-t.N], t.N+1, 0), nil
	case api.TConst:
		return m.constant(t)
	case api.TPi:
		n, err := m.sort(ctx, t.A)
		if err != nil {
			return nil, err
		}
		k, err := m.sort(under1(ctx, t.A), t.B)
		if err != nil {
			return nil, err
		}
		return sort(max(n, k)), nil
	case api.TLam:
		if _, err := m.sort(ctx, t.A); err != nil {
			return nil, err
		}
		b, err := m.infer(under1(ctx, t.A), t.B)
		if err != nil {
			return nil, err
		}
		return pi(t.A, b), nil
	case api.TApp:
		return m.application(ctx, t)
	case api.TLet:
		if _, err := m.sort(ctx, t.A); err != nil {
			return nil, err
		}
		if err := m.check(ctx, t.B, t.A); err != nil {
			return nil, err
		}
		return m.infer(ctx, shift.Put(t.C, t.B, 0))
	}
	return nil, api.ErrSort
}

// under1 is ctx with one variable more.
func under1(ctx []*api.Term, a *api.Term) []*api.Term {
	return append(ctx[:len(ctx):len(ctx)], a)
}

func (m *model) constant(t *api.Term) (*api.Term, error) {
	if name, ok := term.Rec(t.Name); ok {
		if d, ok := m.env.Find(name); ok && d.Kind == api.DFamily {
			if t.N >= api.MaxSort {
				return nil, api.ErrSort
			}
			return recur.Type(d, t.N), nil
		}
	}
	d, ok := m.env.Find(t.Name)
	if !ok {
		return nil, api.ErrName
	}
	return d.Type, nil
}

func (m *model) application(ctx []*api.Term, t *api.Term) (*api.Term, error) {
	a, err := m.infer(ctx, t.A)
	if err == nil {
		a, err = m.whnf(a)
	}
	if err != nil {
		return nil, err
	}
	if kindOf(a) != api.TPi {
		return nil, api.ErrFun
	}
	if err := m.check(ctx, t.B, a.A); err != nil {
		return nil, err
	}
	return shift.Put(a.B, t.B, 0), nil
}

func (m *model) whnf(t *api.Term) (*api.Term, error) {
	t, left, err := whnf.Whnf(m.env, t, m.fuel)
	m.fuel = left
	return t, err
}

func (m *model) sort(ctx []*api.Term, t *api.Term) (int, error) {
	a, err := m.infer(ctx, t)
	if err == nil {
		a, err = m.whnf(a)
	}
	if err != nil {
		return 0, err
	}
	if kindOf(a) != api.TSort {
		return 0, api.ErrSort
	}
	return a.N, nil
}

func (m *model) check(ctx []*api.Term, t, a *api.Term) error {
	b, err := m.infer(ctx, t)
	if err != nil {
		return err
	}
	same, left, err := conv.Conv(m.env, b, a, true, m.fuel)
	m.fuel = left
	if err == nil && !same {
		err = api.ErrType
	}
	return err
}

// kindOf is a term's Kind; of none, none.
func kindOf(t *api.Term) int {
	if t == nil {
		return 0
	}
	return t.Kind
}

// agree holds Infer and Sort of a term against the model, and tells its type, what is left of fuel, and the error's number.
func agree(t *testing.T, e *env.Env, ctx []*api.Term, x *api.Term, fuel int) (*api.Term, int, api.Errno) {
	t.Helper()
	m := &model{e, fuel}
	want, err := m.infer(ctx, x)
	number := numberOf(err)
	if err != nil {
		want, m.fuel = nil, 0
	}
	got, left, err := infer.Infer(e, ctx, x, fuel)
	if !term.Same(got, want) || left != m.fuel || numberOf(err) != number || (err == nil) != (number == api.OK) {
		t.Errorf("%s by %d: %s, %d, %v; want %s, %d, %v", shown(x), fuel, shown(got), left, err, shown(want), m.fuel, number)
	}
	sorts := &model{e, fuel}
	n, err := sorts.sort(ctx, x)
	if err != nil {
		n, sorts.fuel = 0, 0
	}
	if k, left, told := infer.Sort(e, ctx, x, fuel); k != n || left != sorts.fuel || numberOf(told) != numberOf(err) || (told == nil) != (err == nil) {
		t.Errorf("sort of %s by %d: %d, %d, %v; want %d, %d, %v", shown(x), fuel, k, left, told, n, sorts.fuel, err)
	}
	return got, left, number
}

// agreeOn holds Check of a term and a type against the model, and tells the error's number.
func agreeOn(t *testing.T, e *env.Env, ctx []*api.Term, x, a *api.Term, fuel int) api.Errno {
	t.Helper()
	m := &model{e, fuel}
	err := m.check(ctx, x, a)
	if err != nil {
		m.fuel = 0
	}
	if left, told := infer.Check(e, ctx, x, a, fuel); left != m.fuel || numberOf(told) != numberOf(err) || (told == nil) != (err == nil) {
		t.Errorf("%s, %s by %d: %d, %v; want %d, %v", shown(x), shown(a), fuel, left, told, m.fuel, err)
	}
	return numberOf(err)
}

// maker makes random terms.
type maker struct {
	r *rand.Rand
	e *env.Env
}

// chance is true once in n times.
func (m maker) chance(n int) bool { return m.r.Intn(n) == 0 }

func (m maker) oneOf(names ...string) *api.Term { return constant(names[m.r.Intn(len(names))]) }

// leaf is a random term without parts.
func (m maker) leaf(free int) *api.Term {
	switch m.r.Intn(6) {
	case 0:
		return m.oneOf("o", "nat", "s", "y", "p", "py", "d", "pair", "fam", "id", "cons", "no", "nowhere", "large")
	case 1:
		return m.oneOf("n", "one", "two", "arrow", "arrows", "inc", "kind", "plus", "many")
	case 2:
		return rec([]string{"nat.rec", "no.rec", "list.rec", "eq.rec", "y.rec"}[m.r.Intn(5)], m.r.Intn(10))
	case 3:
		return sort(m.r.Intn(10))
	}
	return variable(m.r.Intn(free + 1))
}

// raw is a random term, which mostly has no type.
func (m maker) raw(levels, free int) *api.Term {
	if levels == 0 || m.chance(8) {
		return m.leaf(free)
	}
	levels--
	switch m.r.Intn(8) {
	case 0:
		return pi(m.raw(levels, free), m.raw(levels, free+1))
	case 1, 2:
		return lam(m.raw(levels/2, free), m.raw(levels, free+1))
	case 3:
		return let(m.raw(levels/2, free), m.raw(levels/2, free), m.raw(levels, free+1))
	}
	return app(m.raw(levels, free), m.raw(levels, free))
}

// context is a random row of types of variables.
func (m maker) context(n int) []*api.Term {
	var ctx []*api.Term
	for range n {
		ctx = append(ctx, m.typ(ctx, 2))
	}
	return ctx
}

// typ is a random type, mostly.
func (m maker) typ(ctx []*api.Term, levels int) *api.Term {
	if levels == 0 {
		return m.oneOf("nat", "nat", "nat", "n", "no", "arrow", "tree", "kind")
	}
	levels--
	switch m.r.Intn(14) {
	case 0, 1:
		a := m.typ(ctx, levels)
		return pi(a, m.typ(under1(ctx, a), levels))
	case 2:
		return app(constant("list"), m.typ(ctx, levels))
	case 3:
		return apply(constant("vec"), m.typ(ctx, levels), m.of(constant("nat"), ctx, levels))
	case 4:
		a := m.typ(ctx, levels)
		return apply(constant("eq"), a, m.of(a, ctx, levels), m.of(a, ctx, levels))
	case 5, 6:
		return app(m.oneOf("p", "p", "fam", "many"), m.of(constant("nat"), ctx, levels))
	case 7:
		return sort(m.r.Intn(3))
	case 8:
		return m.of(sort(0), ctx, levels)
	case 9:
		return app(lam(sort(2), variable(0)), m.typ(ctx, levels))
	case 10:
		return let(sort(2), m.typ(ctx, levels), variable(0))
	}
	return m.typ(ctx, 0)
}

// of is a random term that is of a type, mostly.
func (m maker) of(a *api.Term, ctx []*api.Term, levels int) *api.Term {
	if m.chance(60) {
		return m.leaf(len(ctx))
	}
	if m.chance(3) {
		if x := m.variable(a, ctx); x != nil {
			return x
		}
	}
	if levels <= 0 {
		return m.plain(a, ctx, 0)
	}
	switch m.r.Intn(12) {
	case 0, 1:
		return m.general(m.of(a, ctx, levels-1), ctx, levels-1, func(b, v, t *api.Term) *api.Term { return let(b, v, t) })
	case 2:
		return m.general(m.of(a, ctx, levels-1), ctx, levels-1, func(b, v, t *api.Term) *api.Term { return app(lam(b, t), v) })
	case 3:
		b := m.typ(ctx, levels-1)
		return let(b, m.of(b, ctx, levels-1), m.of(shift.Lift(a, 1, 0), under1(ctx, b), levels-1))
	case 4:
		b := m.typ(ctx, levels-1)
		return app(lam(b, m.of(shift.Lift(a, 1, 0), under1(ctx, b), levels-1)), m.of(b, ctx, levels-1))
	case 5:
		return apply(constant("id"), a, m.of(a, ctx, levels-1))
	}
	return m.plain(a, ctx, levels-1)
}

// variable is a variable of ctx of a type, if there is one.
func (m maker) variable(a *api.Term, ctx []*api.Term) *api.Term {
	var l []int
	for n := range ctx {
		if term.Same(shift.Lift(ctx[len(ctx)-1-n], n+1, 0), a) {
			l = append(l, n)
		}
	}
	if len(l) == 0 {
		return nil
	}
	return variable(l[m.r.Intn(len(l))])
}

// general is a term in which something that stands in it is a variable, bound around it.
func (m maker) general(t *api.Term, ctx []*api.Term, levels int, around func(b, v, t *api.Term) *api.Term) *api.Term {
	b, v := constant("nat"), m.of(constant("nat"), ctx, levels-1)
	switch m.r.Intn(4) {
	case 0:
		b, v = sort(m.r.Intn(2)), constant("nat")
	case 1:
		v = m.oneOf("o", "y", "one")
	case 2:
		b, v = pi(constant("nat"), constant("nat")), constant("s")
	}
	return around(b, v, replaced(shift.Lift(t, 1, 0), shift.Lift(v, 1, 0), variable(0)))
}

// replaced is a term with another one in the place of each that is the same as a given one.
func replaced(t, old, other *api.Term) *api.Term {
	if t == nil {
		return nil
	}
	if term.Same(t, old) {
		return other
	}
	x := *t
	inB, inOther := old, other
	if t.Kind == api.TPi || t.Kind == api.TLam {
		inB, inOther = shift.Lift(old, 1, 0), shift.Lift(other, 1, 0)
	}
	x.A, x.B = replaced(t.A, old, other), replaced(t.B, inB, inOther)
	x.C = replaced(t.C, shift.Lift(old, 1, 0), shift.Lift(other, 1, 0))
	return &x
}

// plain is a random term of a type, by what the type comes to.
func (m maker) plain(a *api.Term, ctx []*api.Term, levels int) *api.Term {
	whole, _, err := whnf.Whnf(m.e, a, 60)
	if err != nil {
		return m.leaf(len(ctx))
	}
	f, args := whole, []*api.Term{}
	for f.Kind == api.TApp {
		f, args = f.A, append([]*api.Term{f.B}, args...)
	}
	switch {
	case f.Kind == api.TSort && f.N > 0 && m.chance(2):
		return m.lesser(ctx, f.N, levels)
	case f.Kind == api.TSort:
		return m.typ(ctx, max(levels, 0))
	case f.Kind == api.TPi:
		return lam(m.alike(f.A), m.of(f.B, under1(ctx, f.A), levels))
	case f.Kind == api.TConst && f.Name == "nat":
		return m.number(ctx, levels)
	}
	return m.made(f, args, ctx, levels)
}

// lesser is a random type of a sort.
func (m maker) lesser(ctx []*api.Term, n, levels int) *api.Term {
	switch m.r.Intn(3) {
	case 0:
		return sort(m.r.Intn(n))
	case 1:
		return pi(sort(m.r.Intn(n)), variable(0))
	}
	return m.typ(ctx, max(levels, 0))
}

// alike is another type that comes to the same.
func (m maker) alike(a *api.Term) *api.Term {
	switch m.r.Intn(6) {
	case 0:
		return app(lam(sort(3), variable(0)), a)
	case 1:
		return let(sort(3), a, variable(0))
	}
	return a
}

// number is a random term of type nat.
func (m maker) number(ctx []*api.Term, levels int) *api.Term {
	nat := constant("nat")
	if levels <= 0 {
		return m.oneOf("o", "y", "one", "two")
	}
	levels--
	switch m.r.Intn(8) {
	case 0, 1, 2:
		return app(m.oneOf("s", "s", "inc"), m.of(nat, ctx, levels))
	case 3, 4:
		return apply(m.oneOf("pair", "plus", "times"), m.of(nat, ctx, levels), m.of(nat, ctx, levels))
	case 5:
		step := m.of(pi(nat, pi(nat, nat)), ctx, levels)
		return apply(rec("nat.rec", m.r.Intn(3)), lam(nat, nat), m.of(nat, ctx, levels), step, m.of(nat, ctx, levels))
	case 6:
		return app(m.of(pi(nat, nat), ctx, levels), m.of(nat, ctx, levels))
	}
	return m.number(ctx, 0)
}

// made is a random term of a type that is a constant applied.
func (m maker) made(f *api.Term, args []*api.Term, ctx []*api.Term, levels int) *api.Term {
	at := func(n int) *api.Term {
		if n < len(args) {
			return args[n]
		}
		return constant("nat")
	}
	switch {
	case f.Kind != api.TConst || len(args) > 3:
	case f.Name == "list" && (levels <= 0 || m.chance(2)):
		return app(constant("nil"), at(0))
	case f.Name == "list":
		return apply(constant("cons"), at(0), m.of(at(0), ctx, levels-1), m.of(apply(f, args...), ctx, levels-1))
	case f.Name == "vec" && at(1).Kind == api.TApp && len(args) == 2:
		return apply(constant("vcons"), at(0), at(1).B, m.of(at(0), ctx, levels-1), m.of(apply(f, at(0), at(1).B), ctx, levels-1))
	case f.Name == "vec":
		return app(constant("vnil"), at(0))
	case f.Name == "eq":
		return apply(constant("refl"), at(0), at(1))
	case f.Name == "p" && len(args) == 1 && at(0).Kind == api.TApp && levels > 0 && m.chance(2):
		return apply(constant("next"), at(0).B, m.of(app(f, at(0).B), ctx, levels-1))
	case f.Name == "p":
		return app(constant("d"), at(0))
	case f.Name == "tree" && levels > 0 && m.chance(2):
		return app(constant("node"), m.of(pi(constant("nat"), constant("tree")), ctx, levels-1))
	case f.Name == "tree":
		return constant("seed")
	case f.Name == "no":
		return constant("absurd")
	}
	return m.leaf(len(ctx))
}

// spoilt is a term with another part in the place of one of its own.
func (m maker) spoilt(t *api.Term, free int) *api.Term {
	x := *t
	if t.A == nil || m.chance(5) {
		switch {
		case t.Kind == api.TVar && m.chance(2):
			x.N += m.r.Intn(3) - 1
		case t.Kind == api.TSort && m.chance(2):
			x.N = min(max(t.N+m.r.Intn(5)-2, 0), api.MaxSort)
		case t.Kind == api.TApp && m.chance(2):
			return t.B
		default:
			return m.raw(m.r.Intn(3), free)
		}
		return &x
	}
	switch n := m.r.Intn(5); {
	case n < 2:
		x.A = m.spoilt(t.A, free)
	case t.C != nil && n < 4:
		x.C = m.spoilt(t.C, free+1)
	case t.Kind == api.TPi || t.Kind == api.TLam:
		x.B = m.spoilt(t.B, free+1)
	default:
		x.B = m.spoilt(t.B, free)
	}
	return &x
}

// tested counts what came of random terms, and asks in the end whether each was met often enough.
func tested(t *testing.T, counts map[api.Errno]int, least int, l ...api.Errno) {
	t.Helper()
	for _, errno := range l {
		if counts[errno] < least {
			t.Errorf("%v: only %d times", errno, counts[errno])
		}
	}
	t.Log(counts)
}

func TestP16_1RandomTerms(t *testing.T) {
	e := known(t)
	r := rand.New(rand.NewSource(16))
	m := maker{r, e}
	counts, checks := map[api.Errno]int{}, map[api.Errno]int{}
	for range 12000 {
		ctx := m.context(r.Intn(4))
		a := m.typ(ctx, r.Intn(4))
		x := m.of(a, ctx, r.Intn(6))
		for r.Intn(3) == 0 {
			x = m.spoilt(x, len(ctx))
		}
		fuel := []int{5, 20, 60, 400, 400, 2000, 2000, 2000}[r.Intn(8)]
		_, left, number := agree(t, e, ctx, x, fuel)
		counts[number]++
		if number == api.OK && left > 0 {
			agree(t, e, ctx, x, fuel-left)
			agree(t, e, ctx, x, fuel-left-1)
			agree(t, e, ctx, x, r.Intn(fuel))
		}
		if r.Intn(4) == 0 {
			a = m.spoilt(a, len(ctx))
		}
		checks[agreeOn(t, e, ctx, x, a, fuel)]++
	}
	tested(t, counts, 100, api.OK, api.ErrName, api.ErrType, api.ErrSort, api.ErrFun, api.ErrFuel, api.ErrVar)
	tested(t, checks, 100, api.OK, api.ErrName, api.ErrType, api.ErrSort, api.ErrFun, api.ErrFuel, api.ErrVar)
}

func TestP16_1RawTerms(t *testing.T) {
	e := known(t)
	r := rand.New(rand.NewSource(61))
	m := maker{r, e}
	counts := map[api.Errno]int{}
	for range 40000 {
		ctx := m.context(r.Intn(4))
		_, _, number := agree(t, e, ctx, m.raw(1+r.Intn(5), len(ctx)), []int{3, 9, 300, 300, 300}[r.Intn(5)])
		counts[number]++
	}
	tested(t, counts, 100, api.OK, api.ErrName, api.ErrType, api.ErrSort, api.ErrFun, api.ErrFuel, api.ErrVar)
}

// small are all terms of so many nodes, of some leaves.
func small(nodes int) []*api.Term {
	if nodes == 1 {
		return []*api.Term{variable(0), variable(1), variable(2), constant("nat"), constant("s"), constant("o"), sort(0), sort(9)}
	}
	var l []*api.Term
	for first := 1; first < nodes-1; first++ {
		for _, a := range small(first) {
			for _, b := range small(nodes - 1 - first) {
				l = append(l, pi(a, b), lam(a, b), app(a, b))
			}
		}
	}
	for first := 1; first < nodes-2; first++ {
		for second := 1; second < nodes-1-first; second++ {
			for _, a := range small(first) {
				for _, b := range small(second) {
					for _, c := range small(nodes - 1 - first - second) {
						l = append(l, let(a, b, c))
					}
				}
			}
		}
	}
	return l
}

func TestP16_1EachSmallTerm(t *testing.T) {
	e := known(t)
	ctx := []*api.Term{sort(0), variable(0)}
	counts := map[api.Errno]int{}
	for nodes := 1; nodes <= 5; nodes++ {
		for _, x := range small(nodes) {
			for _, fuel := range []int{1, 2, 3, 4, 5, 7, 100} {
				_, _, number := agree(t, e, ctx, x, fuel)
				counts[number]++
			}
			if nodes < 4 {
				agree(t, e, nil, x, 50)
				for _, a := range []*api.Term{sort(0), sort(1), constant("nat"), variable(0), variable(1), pi(constant("nat"), constant("nat"))} {
					agreeOn(t, e, ctx, x, a, 50)
				}
			}
		}
	}
	tested(t, counts, 100, api.OK, api.ErrType, api.ErrSort, api.ErrFun, api.ErrFuel, api.ErrVar)
	// One let in the other, with what stands behind or in it.
	lets := small(4)
	for _, a := range []*api.Term{constant("nat"), sort(0)} {
		for _, b := range []*api.Term{constant("o"), variable(1), constant("nat")} {
			for _, c := range lets {
				agree(t, e, ctx, let(a, b, c), 100)
				agree(t, e, ctx, let(a, b, lam(a, c)), 100)
				agree(t, e, ctx, lam(a, let(a, b, c)), 100)
				agree(t, e, ctx, let(a, b, app(constant("d"), c)), 100)
			}
		}
	}
}

// odd are terms of which nodes aren't what a term's are.
func odd() []*api.Term {
	no := &api.Term{Kind: 9, N: -5, Name: "no name", A: pi(nil, nil), B: app(nil, nil), C: variable(-1)}
	return []*api.Term{
		nil, no, {}, {Kind: -1}, variable(-1), variable(7), sort(-1), sort(10), sort(-12), constant(""), rec("odd.rec", -1), rec("odd.rec", 10), rec("odd.rec", 3), constant("odd"), constant("c"), rec("one", 3), rec("o", -3), constant(".rec"),
		lam(nil, nil), lam(constant("nat"), nil), pi(nil, nil), pi(nil, sort(2)), pi(constant("nat"), nil), app(nil, nil), app(constant("s"), nil), app(nil, constant("o")), let(nil, nil, nil), let(constant("nat"), constant("o"), nil), let(constant("nat"), nil, nil), lam(nil, variable(0)),
		{Kind: api.TApp, A: constant("s"), B: constant("o"), C: no}, {Kind: api.TSort, N: 2, Name: "two"}, {Kind: api.TSort, N: 1, A: no}, {Kind: api.TVar, Name: "odd"}, {Kind: api.TVar, N: 1, B: no}, {Kind: api.TConst, Name: "o", C: no}, {Kind: api.TPi, N: 3, Name: "x", A: constant("nat"), B: constant("nat"), C: no},
	}
}

// Whatever is handed in, there is an answer, and the one that the words tell.
func TestP16_1WhatIsNot(t *testing.T) {
	l := odd()
	for _, params := range []int{-9, 0, 1, 3, 1 << 40} {
		e := with(t, known(t), api.Decl{Kind: api.DFamily, Name: "odd", Type: pi(sort(0), sort(0)), Family: api.Family{Params: params, Indices: 2, Cons: []api.Con{{Name: "c"}, {Name: "c", Type: sort(0)}, {Name: "", Type: app(constant("odd"), constant("nat"))}}}})
		ctx := []*api.Term{constant("nat"), pi(constant("nat"), nil), lam(nil, nil), {Kind: 9}, variable(40)}
		for i, a := range l {
			agree(t, e, ctx, a, 50)
			agree(t, e, ctx, app(a, a), 50)
			agree(t, e, ctx, app(constant("s"), a), 50)
			agree(t, e, ctx, lam(constant("nat"), a), 50)
			agree(t, e, ctx, lam(a, variable(0)), 50)
			agree(t, e, ctx, pi(constant("nat"), a), 50)
			agree(t, e, ctx, let(a, constant("o"), variable(0)), 50)
			agree(t, e, ctx, let(constant("nat"), a, variable(0)), 50)
			agree(t, e, ctx, let(constant("nat"), constant("o"), a), 50)
			agree(t, e, ctx, let(constant("nat"), constant("o"), app(constant("d"), a)), 50)
			if kindOf(a) != api.TVar || a.Name == "" {
				// A variable that is put in anew has no Name, which none has.
				agree(t, e, ctx, let(constant("nat"), constant("o"), lam(constant("n"), app(constant("d"), a))), 50)
			}
			for n := range 6 {
				agree(t, e, ctx, app(variable(n), a), 50)
				agree(t, e, ctx, apply(constant("id"), a, variable(n)), 50)
			}
			for j, b := range l {
				agreeOn(t, e, ctx, a, b, 50)
				if (i+j)%5 == 0 {
					agree(t, e, ctx, apply(rec("odd.rec", 0), a, b, a), 50)
				}
			}
		}
	}
}

// An Env lets in a type with variables around, which are those around wherever its name stands.
func TestP16_1OpenTypes(t *testing.T) {
	e := known(t)
	e = assumed(t, e, "open", variable(0))
	e = assumed(t, e, "opened", pi(variable(1), variable(1)))
	e = defined(t, e, "opens", sort(0), variable(0))
	ctx := []*api.Term{sort(0), sort(0)}
	l := []*api.Term{constant("open"), constant("opened"), constant("opens"), app(constant("opened"), constant("open")), constant("nat"), constant("o"), variable(0), variable(1)}
	for _, a := range l {
		for _, b := range l {
			agreeOn(t, e, ctx, a, b, 60)
			agree(t, e, ctx, app(a, b), 60)
			for _, c := range l {
				agree(t, e, ctx, let(constant("nat"), a, lam(b, c)), 60)
				agree(t, e, ctx, let(sort(0), constant("nat"), lam(b, app(a, c))), 60)
				agree(t, e, ctx, let(a, b, lam(constant("nat"), app(constant("d"), c))), 60)
				agree(t, e, ctx, lam(sort(0), let(a, b, lam(variable(0), c))), 60)
				agree(t, e, ctx, let(a, b, lam(constant("nat"), let(constant("nat"), c, variable(2)))), 60)
			}
		}
	}
}
