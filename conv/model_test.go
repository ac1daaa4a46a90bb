package conv_test

import (
	"errors"
	"math/rand"
	"testing"

	"vademecum/api"
	"vademecum/conv"
	"vademecum/env"
	"vademecum/shift"
	"vademecum/spine"
	"vademecum/term"
	"vademecum/whnf"
)

// told is what a call tells.
type told struct {
	same  bool
	left  int
	errno api.Errno
}

// numberOf is an error's number.
func numberOf(err error) api.Errno {
	var errno api.Errno
	errors.As(err, &errno)
	return errno
}

// model is P15.1 word by word: each question waits for those that it hangs on, and moves, reduces and copies all that it is about.
func model(e *env.Env, a, b *api.Term, up bool, fuel int) told {
	if fuel <= 0 {
		return told{errno: api.ErrFuel}
	}
	fuel--
	if term.Same(a, b) {
		return told{true, fuel, api.OK}
	}
	a, fuel, err := whnf.Whnf(e, a, fuel)
	if err != nil {
		return told{errno: numberOf(err)}
	}
	b, fuel, err = whnf.Whnf(e, b, fuel)
	if err != nil {
		return told{errno: numberOf(err)}
	}
	switch kind, other := kindOf(a), kindOf(b); {
	case kind == api.TSort && other == api.TSort:
		return told{a.N == b.N || up && a.N < b.N, fuel, api.OK}
	case kind == api.TPi && other == api.TPi:
		first := model(e, a.A, b.A, false, fuel)
		if !first.same {
			return first
		}
		return model(e, a.B, b.B, up, first.left)
	case kind == api.TLam && other == api.TLam:
		return model(e, a.B, b.B, false, fuel)
	case kind == api.TLam:
		return model(e, a.B, app(shift.Lift(b, 1, 0), variable(0)), false, fuel)
	case other == api.TLam:
		return model(e, app(shift.Lift(a, 1, 0), variable(0)), b.B, false, fuel)
	}
	f, l := spine.Head(a)
	g, m := spine.Head(b)
	if f == nil || g == nil || f.Kind != g.Kind || f.N != g.N || len(l) != len(m) {
		return told{false, fuel, api.OK}
	}
	if f.Kind != api.TVar && (f.Kind != api.TConst || f.Name != g.Name) {
		return told{false, fuel, api.OK}
	}
	so := told{true, fuel, api.OK}
	for i := range l {
		if so = model(e, l[i], m[i], false, so.left); !so.same {
			break
		}
	}
	return so
}

// kindOf is a term's Kind; of none, none.
func kindOf(t *api.Term) int {
	if t == nil {
		return 0
	}
	return t.Kind
}

// agree holds Conv against the model, and tells what came of two terms.
func agree(t *testing.T, e *env.Env, a, b *api.Term, up bool, fuel int) told {
	t.Helper()
	want := model(e, a, b, up, fuel)
	got, left, err := conv.Conv(e, a, b, up, fuel)
	if got != want.same || left != want.left || numberOf(err) != want.errno || (err == nil) != (want.errno == api.OK) {
		t.Errorf("%s, %s, up %v by %d: %v, %d, %v; want %v", shown(a), shown(b), up, fuel, got, left, err, want)
	}
	return want
}

// maker makes random terms.
type maker struct {
	r        *rand.Rand
	e        *env.Env
	families []api.Decl
}

func (m maker) oneOf(names ...string) *api.Term { return constant(names[m.r.Intn(len(names))]) }

// term is a random term of so many levels, under so many variables.
func (m maker) term(levels, free int) *api.Term {
	if m.r.Intn(200) == 0 {
		return chain(300 + m.r.Intn(1500))
	}
	if levels == 0 || m.r.Intn(10) == 0 {
		return m.leaf(free)
	}
	levels--
	switch m.r.Intn(12) {
	case 0:
		return pi(m.term(levels, free), m.term(levels, free+1))
	case 1:
		return m.kind(levels, free)
	case 2, 3:
		return lam(m.term(0, free), m.term(levels, free+1))
	case 4:
		return let(m.term(0, free), m.term(levels, free), m.term(levels, free+1))
	case 5:
		return app(lam(m.term(0, free), m.term(levels, free+1)), m.term(levels, free))
	case 6:
		return app(m.oneOf("id", "also", "plus", "before"), m.term(levels, free))
	case 7, 8:
		return apply(m.leaf(free), m.terms(1+m.r.Intn(3), levels, free)...)
	case 9:
		return m.con(m.families[m.r.Intn(len(m.families))], levels, free)
	}
	return m.rec(levels, free)
}

func (m maker) leaf(free int) *api.Term {
	switch m.r.Intn(5) {
	case 0:
		return m.oneOf("o", "leaf", "a", "f", "nat", "z", "st", "no", "none", "s", "cons")
	case 1:
		return m.oneOf("one", "two", "id", "also", "plus", "before", "nofun")
	case 2:
		return sort(m.r.Intn(10))
	}
	return variable(m.r.Intn(free))
}

// kind is a random term that products with a sort at their end, or nearly that, come to.
func (m maker) kind(levels, free int) *api.Term {
	if levels == 0 {
		return sort(m.r.Intn(10))
	}
	return pi(m.term(levels-1, free), m.alike(m.kind(levels-1, free+1), free+1))
}

// terms are so many random terms.
func (m maker) terms(n, levels, free int) []*api.Term {
	l := make([]*api.Term, n)
	for i := range l {
		l[i] = m.term(m.r.Intn(levels+1), free)
	}
	return l
}

// con is a constructor of a family, applied to as many as it has.
func (m maker) con(d api.Decl, levels, free int) *api.Term {
	if len(d.Family.Cons) == 0 {
		return variable(0)
	}
	c := d.Family.Cons[m.r.Intn(len(d.Family.Cons))]
	n := 0
	for x := c.Type; x.Kind == api.TPi; x = x.B {
		n++
	}
	return apply(constant(c.Name), m.terms(n, levels, free)...)
}

// rec is a recursor, mostly applied up to a major at least, that is stuck or not.
func (m maker) rec(levels, free int) *api.Term {
	d := m.families[m.r.Intn(len(m.families))]
	l := m.terms(d.Family.Params+1+len(d.Family.Cons)+d.Family.Indices, levels/2, free)
	major := m.con(d, levels, free)
	switch m.r.Intn(8) {
	case 0:
		major = app(constant("id"), major)
	case 1:
		major = m.term(levels, free)
	case 2, 3, 4:
		major = app(constant("id"), variable(m.r.Intn(free)))
	}
	l = append(append(l, major), m.terms(m.r.Intn(2), levels/2, free)...)
	return apply(rec(d.Name+".rec", m.r.Intn(10)), l[:len(l)-m.r.Intn(2)*m.r.Intn(2)]...)
}

// alike is another term that comes to the same, or nearly so.
func (m maker) alike(t *api.Term, free int) *api.Term {
	switch m.r.Intn(24) {
	case 0:
		return app(lam(sort(0), variable(0)), t)
	case 1:
		return let(sort(0), t, variable(0))
	case 2:
		return lam(constant("nat"), app(shift.Lift(t, 1, 0), variable(0)))
	case 3:
		return lam(constant("nat"), lam(sort(0), apply(shift.Lift(t, 2, 0), variable(1), variable(0))))
	case 4:
		return app(m.oneOf("id", "also"), t)
	case 5:
		return app(lam(sort(1), shift.Lift(t, 1, 0)), m.term(1, free))
	case 6:
		return let(sort(1), m.term(1, free), shift.Lift(t, 1, 0))
	case 7:
		if next, _, _, err := whnf.Step(m.e, t, 1); err == nil {
			return next
		}
	case 8:
		if m.r.Intn(6) == 0 {
			return m.term(1, free)
		}
	}
	return m.within(t, free)
}

// within is a term with its parts made alike.
func (m maker) within(t *api.Term, free int) *api.Term {
	x := *t
	switch t.Kind {
	case api.TSort:
		if m.r.Intn(3) == 0 {
			x.N = min(x.N+m.r.Intn(3), api.MaxSort)
		}
	case api.TConst:
		if d, _ := m.e.Find(t.Name); d.Kind == api.DDef && m.r.Intn(2) == 0 {
			return d.Value
		}
	case api.TApp:
		x.A, x.B = m.within(t.A, free), m.alike(t.B, free)
	case api.TPi, api.TLam:
		x.A, x.B = m.alike(t.A, free), m.alike(t.B, free+1)
	case api.TLet:
		x.A, x.B, x.C = m.alike(t.A, free), m.alike(t.B, free), m.alike(t.C, free+1)
	}
	return &x
}

func TestP15_1RandomTerms(t *testing.T) {
	e := known(t)
	r := rand.New(rand.NewSource(15))
	m := maker{r, e, families(t)}
	outcomes := map[string]int{}
	for range 30000 {
		a := m.term(1+r.Intn(5), 2)
		b := m.alike(a, 2)
		if r.Intn(4) == 0 {
			a = m.alike(a, 2)
		}
		if r.Intn(2) == 0 {
			a, b = b, a
		}
		fuel := []int{1, 2, 3, 5, 9, 60, 60, 60, 60, 60}[r.Intn(10)]
		so, strict := agree(t, e, a, b, true, fuel), agree(t, e, a, b, false, fuel)
		switch {
		case so.errno != api.OK:
			outcomes[so.errno.Error()]++
		case so.same && !strict.same:
			outcomes["less"]++
		case so.same && so.left == fuel-1:
			outcomes["same at once"]++
		case so.same:
			outcomes["same"]++
		default:
			outcomes["unlike"]++
		}
	}
	for _, outcome := range []string{"same at once", "same", "less", "unlike", "error 13", "error 19"} {
		if outcomes[outcome] < 40 {
			t.Errorf("%s: only %d times", outcome, outcomes[outcome])
		}
	}
}

// small are all terms of so many nodes at most, of some leaves, under so many variables.
func small(nodes, free int) []*api.Term {
	l := []*api.Term{variable(0), variable(free - 1), constant("f"), constant("also"), constant("one"), sort(2), sort(3)}
	if nodes < 3 {
		return l
	}
	l = l[:len(l):len(l)]
	leaves := l
	for _, a := range leaves {
		for _, b := range small(nodes-2, free) {
			l = append(l, app(a, b))
			if b.Kind == api.TApp {
				l = append(l, apply(a, b.A, b.B))
			}
		}
	}
	for _, b := range small(nodes-2, free+1) {
		l = append(l, lam(sort(2), b), lam(constant("one"), b), pi(sort(2), b), pi(constant("one"), b))
		if nodes > 3 && term.Size(b) == 1 {
			l = append(l, let(sort(2), constant("one"), b))
		}
	}
	return l
}

func TestP15_1EachSmallTerm(t *testing.T) {
	e := known(t)
	few := small(4, 2)
	for _, a := range few {
		for _, b := range few {
			for _, fuel := range []int{1, 2, 3, 4, 30} {
				agree(t, e, a, b, true, fuel)
				agree(t, e, a, b, false, fuel)
			}
		}
	}
	for i, a := range small(5, 2) {
		for _, b := range few {
			agree(t, e, a, b, i%2 == 0, 30)
			agree(t, e, b, a, i%2 == 0, 30)
		}
	}
}
