package shift_test

import (
	"testing"

	"vademecum/api"
	"vademecum/shift"
	"vademecum/term"
)

// chain is an application of so many nodes, an odd number, to a term, again and again.
func chain(nodes int, x *api.Term) *api.Term {
	t := x
	for range nodes / 2 {
		t = app(t, x)
	}
	return copied(t)
}

// nest is a term under so many binders, each of which is around what is told of the binders around it.
func nest(binders int, part func(around int) *api.Term, last *api.Term) *api.Term {
	t := last
	for around := binders - 1; around >= 0; around-- {
		switch around % 3 {
		case 0:
			t = lam(part(around), t)
		case 1:
			t = pi(part(around), t)
		default:
			t = let(part(around), part(around), t)
		}
	}
	return t
}

// told holds a large term against the one that it should be.
func told(t *testing.T, what string, got, want *api.Term) {
	t.Helper()
	if !term.Same(got, want) {
		t.Error(what + ": not the same")
	}
}

// Terms of as many nodes as there may be, and more.
func TestP7_1Large(t *testing.T) {
	for _, nodes := range []int{2997, 2999, 3001, 3003, 20001} {
		told(t, "lift", shift.Lift(chain(nodes, variable(2)), 3, 1), chain(nodes, variable(5)))
		told(t, "put", shift.Put(chain(nodes, variable(0)), sort(3), 0), chain(nodes, sort(3)))
		told(t, "put in", shift.Put(lam(variable(0), variable(1)), chain(nodes, variable(0)), 0), lam(chain(nodes, variable(0)), chain(nodes, variable(1))))
		told(t, "bind", shift.Bind(chain(nodes, constant("a")), "a"), chain(nodes, variable(0)))
		told(t, "all", shift.All(chain(nodes, variable(1)), variable(4), sort(0)), chain(nodes, variable(4)))
	}
}

// An answer of up to MaxNodes nodes shares none of them within itself, wherever they come from.
func TestP7_2NodesAtTheLimit(t *testing.T) {
	u := chain(2997, variable(0))
	// 3000 nodes, many of which are shared, the last ones too.
	two := app(variable(5), variable(6))
	row := variable(7)
	for range 749 {
		row = app(row, two)
	}
	row = let(sort(0), sort(0), row)
	for what, x := range map[string]*api.Term{
		"lift":   shift.Lift(chain(2999, variable(2)), 3, 1),
		"put":    shift.Put(variable(0), chain(2999, variable(0)), 0),
		"put in": shift.Put(app(sort(0), variable(0)), u, 0),
		"shared": shift.Lift(row, 1, 0),
		"bound":  shift.Bind(row, "a"),
		"all":    shift.All(app(variable(0), variable(0), variable(1), variable(1)), sort(0), chain(1497, variable(0))),
	} {
		if size := term.Size(x); size < api.MaxNodes-1 || size > api.MaxNodes || len(known(x)) != size {
			t.Errorf("%s: %d of %d nodes", what, len(known(x)), size)
		}
	}
}

// A term is put in again and again, each time under one binder more.
func TestP7_1PutUnderMany(t *testing.T) {
	const binders = 300
	u := chain(2999, variable(1))
	x := nest(binders, variable, variable(binders+4))
	lifted := func(around int) *api.Term { return chain(2999, variable(around+1)) }
	told(t, "put", shift.Put(x, u, 0), nest(binders, lifted, variable(binders+3)))
	told(t, "put once", shift.Put(x, u, 4), nest(binders, variable, lifted(binders)))
	told(t, "all", shift.All(x, sort(0), u), nest(binders, lifted, variable(binders+2)))
	told(t, "bind", shift.Bind(nest(binders, func(int) *api.Term { return constant("a") }, variable(binders-1)), "a"), nest(binders, variable, variable(binders-1)))
	told(t, "lift", shift.Lift(x, 9, 4), nest(binders, variable, variable(binders+13)))
}

// As many parts nested in one another as are promised for.
func TestP7_1Deep(t *testing.T) {
	const deep = 1 << 16
	a := func(int) *api.Term { return constant("a") }
	for n, want := range map[int]int{0: 0, deep - 1: deep - 1, deep: deep + 3, deep + 5: deep + 8} {
		told(t, "lift", shift.Lift(nest(deep, a, variable(n)), 3, 0), nest(deep, a, variable(want)))
	}
	told(t, "put", shift.Put(nest(deep, a, variable(deep)), variable(7), 0), nest(deep, a, variable(deep+7)))
	told(t, "bind", shift.Bind(nest(deep, a, variable(deep)), "a"), nest(deep, variable, variable(deep+1)))
	told(t, "deep in deep", shift.Put(nest(deep, a, variable(deep)), nest(deep, a, variable(deep+1)), 0), nest(deep, a, nest(deep, a, variable(deep+deep+1))))
	wide := chain(1<<18-1, variable(0))
	told(t, "applied", shift.Put(wide, constant("a"), 0), chain(1<<18-1, constant("a")))
	right := variable(0)
	for range deep {
		right = app(sort(0), right)
	}
	told(t, "to the right", shift.Put(shift.Lift(right, 1, 0), constant("a"), 0), right)
}

// shared is a term with so many nodes one above the other, each of which has the one below it more than once.
func shared(deep int, last *api.Term) *api.Term {
	t := last
	for range deep {
		t = app(t, t)
	}
	return t
}

// sharedUnder is likewise, with binders.
func sharedUnder(deep int, last *api.Term) *api.Term {
	t := last
	for i := range deep {
		if i%2 == 0 {
			t = lam(t, t)
		} else {
			t = let(t, t, t)
		}
	}
	return t
}

// What is shared can't be unfolded, but what comes of it needn't be.
func TestP7_1Shared(t *testing.T) {
	for _, deep := range []int{5, 13, 60, 5000} {
		a, v := shared(deep, constant("a")), shared(deep, variable(3))
		told(t, "lift", shift.Lift(v, 2, 1), shared(deep, variable(5)))
		told(t, "put", shift.Put(v, constant("a"), 3), a)
		told(t, "put in", shift.Put(shared(deep, variable(0)), v, 0), shared(2*deep, variable(3)))
		told(t, "put in under a binder", shift.Put(lam(sort(0), shared(deep, variable(1))), v, 0), lam(sort(0), shared(2*deep, variable(4))))
		told(t, "put into itself", shift.Put(v, v, 3), shared(2*deep, variable(3)))
		told(t, "bind", shift.Bind(a, "a"), shared(deep, variable(0)))
		told(t, "all", shift.All(v, v, v, v), shared(deep, variable(0)))
		told(t, "all in", shift.All(app(variable(0), variable(1)), a, v), app(v, a))
		if x := shift.Lift(v, 1, 0); deep > 13 && len(known(x)) > api.MaxNodes+2*deep {
			t.Errorf("%d deep: %d nodes", deep, len(known(x)))
		}
	}
}

func TestP7_1SharedUnderBinders(t *testing.T) {
	for _, deep := range []int{4, 60, 200} {
		x := sharedUnder(deep, variable(deep+1))
		told(t, "lift none", shift.Lift(x, 1, deep+2), x)
		told(t, "lift all", shift.Lift(sharedUnder(deep, variable(deep)), 1, -deep), sharedUnder(deep, variable(deep+1)))
		told(t, "nothing bound", shift.Bind(sharedUnder(deep, constant("a")), "b"), sharedUnder(deep, constant("a")))
		told(t, "there and back", shift.Put(shift.Lift(x, 1, 3), sort(0), 3), x)
		told(t, "put in", shift.Put(app(variable(0), variable(0)), x, 0), app(x, x))
	}
}

// A term that hangs on itself has no end; a call has.
func TestP7_1WithoutEnd(t *testing.T) {
	round := app(nil, variable(0), lam(sort(0), variable(1)))
	round.A.A = round
	for i, x := range []*api.Term{shift.Lift(round, 0, 0), shift.Put(round, variable(0), 5), shift.Put(shift.Lift(round, 1, 0), variable(0), 0), shift.Put(variable(0), round, 0)} {
		if !term.Same(x, round) {
			t.Errorf("row %d: not the same", i)
		}
	}
	binder := lam(sort(0), nil)
	binder.B = app(variable(0), binder)
	for i, x := range []*api.Term{shift.Lift(binder, 1, 0), shift.Put(binder, binder, 0), shift.Bind(binder, "a"), shift.All(binder, binder)} {
		if x == nil || x.Kind != api.TLam || x.B.B.Kind != api.TLam || known(binder)[x] {
			t.Errorf("row %d", i)
		}
	}
}
