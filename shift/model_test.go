package shift_test

import (
	"math/rand"
	"slices"
	"testing"

	"vademecum/api"
	"vademecum/shift"
	"vademecum/term"
)

// binder: who binds a variable. Two are the same only if they are one.
type binder struct{ _ int }

// named is a term whose variables tell who binds them, and no number: nothing in it has to be moved.
type named struct {
	node    api.Term
	by      *binder
	a, b, c *named
}

// row is so many binders, the innermost last.
func row(n int) []*binder {
	l := make([]*binder, n)
	for i := range l {
		l[i] = &binder{}
	}
	return l
}

// with is a row with one more, the innermost.
func with(l []*binder, b *binder) []*binder { return append(slices.Clone(l), b) }

// name tells a term without numbers, under a row of binders.
func name(t *api.Term, l []*binder) *named {
	if t == nil {
		return nil
	}
	x := &named{node: api.Term{Kind: t.Kind, N: t.N, Name: t.Name}}
	inB, inC := l, l
	switch t.Kind {
	case api.TVar:
		x.by = l[len(l)-1-t.N]
	case api.TPi, api.TLam:
		x.by = &binder{}
		inB = with(l, x.by)
	case api.TLet:
		x.by = &binder{}
		inC = with(l, x.by)
	}
	x.a, x.b, x.c = name(t.A, l), name(t.B, inB), name(t.C, inC)
	return x
}

// number tells a named term by numbers, under a row of binders.
func (x *named) number(l []*binder) *api.Term {
	if x == nil {
		return nil
	}
	t := x.node
	inB, inC := l, l
	switch t.Kind {
	case api.TVar:
		t.N = len(l) - 1 - slices.Index(l, x.by)
	case api.TPi, api.TLam:
		inB = with(l, x.by)
	case api.TLet:
		inC = with(l, x.by)
	}
	t.A, t.B, t.C = x.a.number(l), x.b.number(inB), x.c.number(inC)
	return &t
}

// put is a named term with others in the place of some variables.
func (x *named) put(instead map[*binder]*named) *named {
	if x == nil {
		return nil
	}
	if u := instead[x.by]; u != nil && x.node.Kind == api.TVar {
		return u
	}
	return &named{x.node, x.by, x.a.put(instead), x.b.put(instead), x.c.put(instead)}
}

// bind is a named term with a variable in the place of a constant.
func (x *named) bind(name string, by *binder) *named {
	if x == nil {
		return nil
	}
	if x.node.Kind == api.TConst && x.node.N == 0 && x.node.Name == name {
		return &named{node: api.Term{Kind: api.TVar}, by: by}
	}
	return &named{x.node, x.by, x.a.bind(name, by), x.b.bind(name, by), x.c.bind(name, by)}
}

// around is how many binders are around each term that the model is asked of.
const around = 8

func modelLift(t *api.Term, by, from int) *api.Term {
	l := row(around)
	return name(t, l).number(slices.Insert(slices.Clone(l), around-from, row(by)...))
}

func modelPut(t, u *api.Term, at int) *api.Term {
	l := row(around - 1)
	gone := &binder{}
	return name(t, slices.Insert(slices.Clone(l), around-1-at, gone)).put(map[*binder]*named{gone: name(u, l)}).number(l)
}

func modelBind(t *api.Term, constant string) *api.Term {
	l := row(around)
	by := &binder{}
	return name(t, l).bind(constant, by).number(with(l, by))
}

func modelAll(t *api.Term, terms []*api.Term) *api.Term {
	l, gone := row(around-len(terms)), row(len(terms))
	instead := map[*binder]*named{}
	for i, u := range terms {
		instead[gone[i]] = name(u, l)
	}
	return name(t, slices.Concat(l, gone)).put(instead).number(l)
}

// random is a term of so many nodes at most under so many binders; now and then it shares a node.
func random(r *rand.Rand, nodes, binders int) *api.Term {
	if nodes < 3 || r.Intn(8) == 0 {
		switch r.Intn(6) {
		case 0:
			return sort(r.Intn(10))
		case 1:
			return constant([]string{"a", "b", "a.b"}[r.Intn(3)])
		case 2:
			return rec("a.rec", r.Intn(2))
		}
		if binders > 0 {
			return variable(r.Intn(binders))
		}
		return constant("a")
	}
	if nodes > 3 && r.Intn(4) == 0 {
		n := (nodes - 1) / 3
		return let(random(r, n, binders), random(r, n, binders), random(r, n, binders+1))
	}
	left := 1 + r.Intn(nodes-2)
	a := random(r, left, binders)
	if r.Intn(6) == 0 && left < nodes/2 {
		return app(a, a)
	}
	switch r.Intn(3) {
	case 0:
		return app(a, random(r, nodes-1-left, binders))
	case 1:
		return pi(a, random(r, nodes-1-left, binders+1))
	}
	return lam(a, random(r, nodes-1-left, binders+1))
}

// randoms are some terms, each under so many binders.
func randoms(r *rand.Rand, n, nodes, binders int) []*api.Term {
	l := make([]*api.Term, n)
	for i := range l {
		l[i] = random(r, 1+r.Intn(nodes), binders)
	}
	return l
}

func TestP7_2Random(t *testing.T) {
	r := rand.New(rand.NewSource(7))
	for range 4000 {
		x := random(r, 1+r.Intn(80), around)
		by, from := r.Intn(5), r.Intn(around+1)
		is(t, "lift", shift.Lift(x, by, from), modelLift(x, by, from))
		u, at := random(r, 1+r.Intn(20), around-1), r.Intn(around)
		is(t, "put", shift.Put(x, u, at), modelPut(x, u, at))
		for _, name := range []string{"a", "a.rec", "z"} {
			is(t, "bind", shift.Bind(x, name), modelBind(x, name))
		}
		n := r.Intn(around + 1)
		l := randoms(r, n, 12, around-n)
		is(t, "all", shift.All(x, l...), modelAll(x, l))
		if t.Failed() {
			t.Fatal(dump(x))
		}
	}
}

func TestP7_2RandomLarge(t *testing.T) {
	r := rand.New(rand.NewSource(77))
	for range 40 {
		x, u := random(r, 9000, around), random(r, 3000, around-1)
		told(t, "lift", shift.Lift(x, 3, 2), modelLift(x, 3, 2))
		told(t, "bind", shift.Bind(x, "a"), modelBind(x, "a"))
		x = random(r, 400, around)
		told(t, "put", shift.Put(x, u, 1), modelPut(x, u, 1))
		l := randoms(r, 3, 2000, around-3)
		told(t, "all", shift.All(x, l...), modelAll(x, l))
	}
}

// What one call makes another one takes back, and rows come to the same as one after the other.
func TestP7_2Laws(t *testing.T) {
	r := rand.New(rand.NewSource(777))
	for range 2000 {
		x, u := random(r, 1+r.Intn(60), around), random(r, 1+r.Intn(20), around)
		k, by, more := r.Intn(around), r.Intn(5), r.Intn(5)
		is(t, "lifted twice", shift.Lift(shift.Lift(x, by, k), more, k), shift.Lift(x, by+more, k))
		is(t, "lifted by none", shift.Lift(x, 0, k), x)
		is(t, "lifted and back", shift.Lift(shift.Lift(x, by, k), -by, k), x)
		is(t, "lifted and put", shift.Put(shift.Lift(x, 1, k), u, k), x)
		is(t, "put as it was", shift.Put(shift.Lift(x, 1, k+1), variable(k), k), x)
		is(t, "bound and put", shift.Put(shift.Bind(x, "a"), constant("a"), 0), x)
		is(t, "bound, what isn't there", shift.Bind(x, "z"), shift.Lift(x, 1, 0))
		is(t, "all of one", shift.All(x, u), shift.Put(x, u, 0))
		is(t, "all of none", shift.All(x), x)
		l := randoms(r, 3, 12, around)
		one := shift.Put(shift.Put(shift.Put(x, shift.Lift(l[2], 2, 0), 0), shift.Lift(l[1], 1, 0), 0), l[0], 0)
		is(t, "all one by one", shift.All(x, l...), one)
		v := random(r, 1+r.Intn(20), around)
		is(t, "two put", shift.Put(shift.Put(x, u, 0), v, k), shift.Put(shift.Put(x, shift.Lift(v, 1, 0), k+1), shift.Put(u, v, k), 0))
		if free := term.Free(shift.Lift(x, by, 0)); term.Free(x) > 0 && free != term.Free(x)+by || term.Free(x) == 0 && free != 0 {
			t.Errorf("free %d, lifted %d", term.Free(x), free)
		}
		if t.Failed() {
			t.Fatal(dump(x))
		}
	}
}

// every is each term of so many nodes under so many binders, with a constant and a few variables.
func every(nodes, binders int) []*api.Term {
	if nodes == 1 {
		l := []*api.Term{constant("a")}
		for n := range binders {
			l = append(l, variable(n))
		}
		return l
	}
	var l []*api.Term
	for left := 1; left < nodes-1; left++ {
		for _, a := range every(left, binders) {
			for _, b := range every(nodes-1-left, binders) {
				l = append(l, app(a, b))
			}
			for _, b := range every(nodes-1-left, binders+1) {
				l = append(l, pi(a, b), lam(a, b))
			}
		}
	}
	if nodes == 4 {
		for _, a := range every(1, binders) {
			for _, c := range every(1, binders+1) {
				l = append(l, let(a, variable(0), c), let(variable(0), a, c))
			}
		}
	}
	return l
}

func TestP7_1EverySmallTerm(t *testing.T) {
	for _, nodes := range []int{1, 3, 4, 5} {
		for _, x := range every(nodes, 3) {
			for k := range 5 {
				is(t, "lift", shift.Lift(x, 2, k), modelLift(x, 2, k))
				is(t, "put", shift.Put(x, lam(variable(1), app(variable(0), variable(2))), k), modelPut(x, lam(variable(1), app(variable(0), variable(2))), k))
				l := []*api.Term{pi(variable(0), variable(0)), variable(1), variable(0), app(variable(2), variable(0))}[:k]
				is(t, "all", shift.All(x, l...), modelAll(x, l))
			}
			is(t, "bind", shift.Bind(x, "a"), modelBind(x, "a"))
			if t.Failed() {
				t.Fatal(dump(x))
			}
		}
	}
}
