package whnf_test

import (
	"errors"
	"math/rand"
	"slices"
	"strings"
	"testing"

	"vademecum/api"
	"vademecum/env"
	"vademecum/whnf"
)

// binder: who binds a variable. Two are the same only if they are one.
type binder struct{ _ int }

// named is a term whose variables tell who binds them, and no number: nothing in it has to be moved.
type named struct {
	node    api.Term
	by      *binder
	a, b, c *named
}

// bound is a binder with the type of its variable.
type bound struct {
	by *binder
	of *named
}

func nameOf(by *binder) *named { return &named{node: api.Term{Kind: api.TVar}, by: by} }

// naming tells a term by binders, under a row of them.
func naming(t *api.Term, l []*binder) *named {
	if t == nil {
		return nil
	}
	x := &named{node: api.Term{Kind: t.Kind, N: t.N, Name: t.Name}}
	inB, inC := l, l
	switch t.Kind {
	case api.TVar:
		x.node.N, x.by = 0, l[len(l)-1-t.N]
	case api.TPi, api.TLam:
		x.by = &binder{}
		inB = append(slices.Clone(l), x.by)
	case api.TLet:
		x.by = &binder{}
		inC = append(slices.Clone(l), x.by)
	}
	x.a, x.b, x.c = naming(t.A, l), naming(t.B, inB), naming(t.C, inC)
	return x
}

// number tells a named term by numbers, under a row of binders.
func (x *named) number(l []*binder) *api.Term {
	if x == nil {
		return nil
	}
	t := x.node
	inB, inC := l, l
	switch t.Kind {
	case api.TVar:
		t.N = len(l) - 1 - slices.Index(l, x.by)
	case api.TPi, api.TLam:
		inB = append(slices.Clone(l), x.by)
	case api.TLet:
		inC = append(slices.Clone(l), x.by)
	}
	t.A, t.B, t.C = x.a.number(l), x.b.number(inB), x.c.number(inC)
	return &t
}

// put is a named term with others in the place of some variables, and binders of its own.
func (x *named) put(instead map[*binder]*named) *named {
	if x == nil {
		return nil
	}
	y := &named{node: x.node, by: x.by}
	if u := instead[x.by]; u != nil && x.node.Kind == api.TVar {
		return u.put(nil)
	}
	if x.by != nil && x.node.Kind != api.TVar {
		y.by = &binder{}
		more := map[*binder]*named{x.by: nameOf(y.by)}
		for by, u := range instead {
			if by != x.by {
				more[by] = u
			}
		}
		instead = more
	}
	y.a, y.b, y.c = x.a.put(instead), x.b.put(instead), x.c.put(instead)
	return y
}

func (x *named) size() int {
	if x == nil {
		return 0
	}
	return 1 + x.a.size() + x.b.size() + x.c.size()
}

func (x *named) isConst(name string) bool { return x.node.Kind == api.TConst && x.node.Name == name }

// head is what is applied, and to what.
func (x *named) head() (*named, []*named) {
	if x.node.Kind != api.TApp {
		return x, nil
	}
	f, l := x.a.head()
	return f, append(l, x.b)
}

func applied(f *named, l ...*named) *named {
	for _, x := range l {
		f = &named{node: api.Term{Kind: api.TApp}, a: f, b: x}
	}
	return f
}

// model: declarations, the terms of which are named.
type model struct {
	values   map[string]*named
	families map[string]modelFamily
}

// modelFamily: how many parameters and indices there are, and the constructors' names and whole types.
type modelFamily struct {
	name            string
	params, indices int
	cons            []modelCon
}

type modelCon struct {
	name  string
	whole *named
}

func modelOf(e *env.Env) model {
	m := model{map[string]*named{}, map[string]modelFamily{}}
	for _, d := range e.List() {
		switch d.Kind {
		case api.DDef:
			m.values[d.Name] = naming(d.Value, nil)
		case api.DFamily:
			f := modelFamily{name: d.Name, params: d.Family.Params, indices: d.Family.Indices}
			for _, c := range d.Family.Cons {
				f.cons = append(f.cons, modelCon{c.Name, naming(c.Type, nil)})
			}
			m.families[d.Name+".rec"] = f
		}
	}
	return m
}

// args is how many arguments a constructor has behind the parameters.
func (f modelFamily) args(k int) int {
	n := 0
	for x := f.cons[k].whole; x.node.Kind == api.TPi; x = x.b {
		n++
	}
	return n - f.params
}

// step is what P14.1 says of a term.
func (m model) step(x *named, fuel int) (*named, int, bool, api.Errno) {
	f, l := x.head()
	switch {
	case f.node.Kind == api.TLam && len(l) > 0:
		return stepped(applied(f.b.put(map[*binder]*named{f.by: l[0]}), l[1:]...), fuel)
	case f.node.Kind == api.TLet:
		return stepped(applied(f.c.put(map[*binder]*named{f.by: f.b}), l...), fuel)
	case f.node.Kind == api.TConst && m.values[f.node.Name] != nil:
		return stepped(applied(m.values[f.node.Name], l...), fuel)
	case f.node.Kind == api.TConst && strings.HasSuffix(f.node.Name, ".rec"):
		fam, ok := m.families[f.node.Name]
		ahead := fam.params + 1 + len(fam.cons)
		at := ahead + fam.indices
		if !ok || len(l) <= at {
			break
		}
		major, fuel, err := m.whnf(l[at], fuel)
		if err != api.OK {
			return nil, 0, false, err
		}
		c, args := major.head()
		for k, con := range fam.cons {
			if c.isConst(con.name) && len(args) == fam.params+fam.args(k) {
				return stepped(applied(fam.rule(f, l[:ahead], k, args[fam.params:]), l[at+1:]...), fuel)
			}
		}
		l = slices.Clone(l)
		l[at] = major
		return applied(f, l...), fuel, false, api.OK
	}
	return x, fuel, false, api.OK
}

// stepped is what a step comes to, which takes one of fuel.
func stepped(x *named, fuel int) (*named, int, bool, api.Errno) {
	if fuel <= 0 {
		return nil, 0, false, api.ErrFuel
	}
	if x.size() > api.MaxNodes {
		return nil, 0, false, api.ErrLarge
	}
	return x, fuel - 1, true, api.OK
}

// whnf is what P14.2 says of a term.
func (m model) whnf(x *named, fuel int) (*named, int, api.Errno) {
	for {
		next, left, more, err := m.step(x, fuel)
		if err != api.OK || !more {
			return next, left, err
		}
		x, fuel = next, left
	}
}

// rule is what P13.3 says of a constructor applied to arguments: the minor of these, and of the recursor of each that ends in the family.
func (f modelFamily) rule(rec *named, ahead []*named, k int, args []*named) *named {
	instead := map[*binder]*named{}
	x := f.cons[k].whole
	for _, p := range ahead[:f.params] {
		instead[x.by] = p
		x = x.b
	}
	made := applied(ahead[f.params+1+k], args...)
	for _, arg := range args {
		if own, ends, ok := f.deep(x.a); ok {
			again := applied(rec, append(slices.Concat(ahead, ends), applied(arg, names(own)...))...)
			for _, p := range slices.Backward(own) {
				again = &named{node: api.Term{Kind: api.TLam}, by: p.by, a: p.of, b: again}
			}
			made = applied(made, again.put(instead))
		}
		instead[x.by] = arg
		x = x.b
	}
	return made
}

// deep tells a type's products, and what the family at their end is applied to behind the parameters.
func (f modelFamily) deep(a *named) ([]bound, []*named, bool) {
	var own []bound
	for ; a.node.Kind == api.TPi; a = a.b {
		own = append(own, bound{a.by, a.a})
	}
	c, l := a.head()
	if !c.isConst(f.name) || len(l) < f.params {
		return nil, nil, false
	}
	return own, l[f.params:], true
}

func names(l []bound) []*named {
	var m []*named
	for _, x := range l {
		m = append(m, nameOf(x.by))
	}
	return m
}

// modelled is the Env of the random tests, and its model.
func modelled(t *testing.T) (*env.Env, model) {
	e := known(t)
	for i, text := range []string{
		"fun x : a => f x x",
		"fun x : a => x x",
		"nat.rec@1 P z (fun x : nat => fun y : nat => y)",
		"loop",
	} {
		e = with(t, e, api.Decl{Kind: api.DDef, Name: []string{"double", "twice", "down", "loop"}[i], Type: sort(0), Value: of(t, text)})
	}
	return e, modelOf(e)
}

// agree holds both calls against the model, and tells what came of a term.
func agree(t *testing.T, e *env.Env, m model, x *api.Term, fuel int) string {
	t.Helper()
	row := []*binder{{}, {}}
	y := naming(x, row)
	want, left, more, errno := m.step(y, fuel)
	got, gotLeft, gotMore, err := whnf.Step(e, x, fuel)
	if dump(got) != dump(want.number(row)) || gotLeft != left || gotMore != more || !isErrno(err, errno) {
		t.Errorf("Step of %s by %d: %s, %d, %v, %v; want %s, %d, %v, %v", shown(x), fuel, shown(got), gotLeft, gotMore, err, shown(want.number(row)), left, more, errno)
	}
	outcome := "stuck"
	switch {
	case errno != api.OK:
		outcome = errno.Error()
	case more && left < fuel-1:
		outcome = "a step by a major's"
	case more:
		outcome = "a step"
	case left < fuel:
		outcome = "stuck by a major's"
	}
	want, left, errno = m.whnf(y, fuel)
	got, gotLeft, err = whnf.Whnf(e, x, fuel)
	if dump(got) != dump(want.number(row)) || gotLeft != left || !isErrno(err, errno) {
		t.Errorf("Whnf of %s by %d: %s, %d, %v; want %s, %d, %v", shown(x), fuel, shown(got), gotLeft, err, shown(want.number(row)), left, errno)
	}
	return outcome + ", then " + errno.Error()
}

// isErrno tells whether an error is of a number; of OK, whether there is none.
func isErrno(err error, want api.Errno) bool {
	if want == api.OK {
		return err == nil
	}
	return errors.Is(err, want)
}

// maker makes random terms.
type maker struct {
	r        *rand.Rand
	families []api.Decl
}

func (m maker) oneOf(names ...string) *api.Term { return constant(names[m.r.Intn(len(names))]) }

// term is a random term of so many levels, under so many variables.
func (m maker) term(levels, free int) *api.Term {
	if m.r.Intn(150) == 0 {
		return chain(300 + m.r.Intn(1500))
	}
	if levels == 0 || m.r.Intn(10) == 0 {
		switch m.r.Intn(4) {
		case 0:
			return m.oneOf("o", "leaf", "a", "f", "nat", "z", "st", "no", "none")
		case 1:
			return m.oneOf("one", "two", "id", "also", "plus", "before", "double", "twice", "down")
		case 2:
			return sort(m.r.Intn(10))
		}
		return variable(m.r.Intn(free))
	}
	levels--
	switch m.r.Intn(13) {
	case 0:
		return pi(m.term(0, free), m.term(levels, free+1))
	case 1:
		return lam(m.term(0, free), m.term(levels, free+1))
	case 2:
		return let(m.term(0, free), m.term(levels, free), m.term(levels, free+1))
	case 3, 4:
		return app(lam(m.term(0, free), m.term(levels, free+1)), m.term(levels, free))
	case 5:
		return app(m.oneOf("id", "also", "double", "twice", "down", "before"), m.term(levels, free))
	case 6, 7:
		return app(m.term(levels, free), m.term(levels, free))
	case 8:
		return m.con(m.families[m.r.Intn(len(m.families))], levels, free)
	case 9:
		if m.r.Intn(12) == 0 {
			return app(m.oneOf("loop"), m.term(0, free))
		}
		return let(m.term(0, free), m.oneOf("one", "id", "twice"), m.term(levels, free+1))
	}
	return m.rec(levels, free)
}

// terms are so many random terms, now and then one less or one more.
func (m maker) terms(n, levels, free int) []*api.Term {
	switch m.r.Intn(16) {
	case 0:
		n = max(n-1, 0)
	case 1:
		n++
	}
	l := make([]*api.Term, n)
	for i := range l {
		l[i] = m.term(m.r.Intn(levels+1), free)
	}
	return l
}

// con is a constructor of a family, mostly applied to as many as it has.
func (m maker) con(d api.Decl, levels, free int) *api.Term {
	if len(d.Family.Cons) == 0 {
		return variable(0)
	}
	c := d.Family.Cons[m.r.Intn(len(d.Family.Cons))]
	n := 0
	for x := c.Type; x.Kind == api.TPi; x = x.B {
		n++
	}
	return apply(constant(c.Name), m.terms(n, levels, free)...)
}

// rec is a recursor, mostly applied up to a major that comes to a constructor.
func (m maker) rec(levels, free int) *api.Term {
	d := m.families[m.r.Intn(len(m.families))]
	l := m.terms(d.Family.Params+1+len(d.Family.Cons)+d.Family.Indices, levels/2, free)
	major := m.con(d, levels, free)
	switch m.r.Intn(8) {
	case 0:
		major = app(lam(sort(0), variable(0)), major)
	case 1:
		major = app(constant("id"), major)
	case 2:
		major = let(sort(0), major, variable(0))
	case 3:
		major = natRec(major, sort(0), m.oneOf("o", "o", "v"))
	case 4:
		major = m.term(levels, free)
	}
	return apply(rec(d.Name+".rec", m.r.Intn(10)), append(append(l, major), m.terms(m.r.Intn(2), levels/2, free)...)...)
}

func TestP14_2RandomTerms(t *testing.T) {
	e, m := modelled(t)
	r := rand.New(rand.NewSource(14))
	mk := maker{r, families(t)}
	outcomes := map[string]int{}
	for range 40000 {
		x := mk.term(1+r.Intn(5), 2)
		outcomes[agree(t, e, m, x, []int{0, 1, 2, 3, 4, 5, 8, 40, 40, 40}[r.Intn(10)])]++
	}
	for _, outcome := range []string{"stuck, then error 0", "stuck by a major's, then error 0", "a step, then error 0", "a step by a major's, then error 0", "a step, then error 13", "a step, then error 19", "a step by a major's, then error 19", "error 13, then error 13", "error 19, then error 19"} {
		if outcomes[outcome] < 20 {
			t.Errorf("%s: only %d times", outcome, outcomes[outcome])
		}
	}
}

// small are all terms of so many nodes at most, of some leaves, under so many variables.
func small(nodes, free int) [][]*api.Term {
	l := make([][]*api.Term, nodes+1)
	if nodes < 1 {
		return l
	}
	l[1] = []*api.Term{variable(0), variable(free - 1), constant("one"), constant("also"), constant("loop"), sort(2)}
	inner := small(nodes-2, free+1)
	for n := 3; n <= nodes; n++ {
		for i := 1; i < n-1; i++ {
			for _, a := range l[i] {
				for _, b := range l[n-1-i] {
					l[n] = append(l[n], app(a, b))
				}
				for _, b := range inner[n-1-i] {
					l[n] = append(l[n], lam(a, b))
				}
				for j := 1; i+j < n-1; j++ {
					for _, b := range l[j] {
						for _, c := range inner[n-1-i-j] {
							l[n] = append(l[n], let(a, b, c))
						}
					}
				}
			}
		}
	}
	return l
}

func TestP14_2EachSmallTerm(t *testing.T) {
	e, m := modelled(t)
	for _, l := range small(6, 2) {
		for _, x := range l {
			for _, fuel := range []int{0, 1, 2, 9} {
				agree(t, e, m, x, fuel)
			}
		}
	}
}

// Each recursor with so many arguments, of which the last ones are each two of many.
func TestP14_1EachRow(t *testing.T) {
	e, m := modelled(t)
	var parts []*api.Term
	for _, text := range []string{"v", "o", "s u", "s u v", "one", "id (nil v)", "leaf", "fork o v", "id", "node f", "node", "cons u o v", "vnil v", "vcons u o u v", "refl u v", "deep u o v", "deep u o", "also (nat.rec@0 P o st u)", "id (down o)", "loop", "double"} {
		parts = append(parts, of(t, text))
	}
	for _, d := range families(t) {
		for n := range 6 {
			f := apply(rec(d.Name+".rec", 3), []*api.Term{constant("P"), variable(1), constant("z"), constant("st"), variable(0)}[:n]...)
			agree(t, e, m, f, 4)
			for _, x := range parts {
				agree(t, e, m, app(f, x), 7)
				for _, y := range parts {
					agree(t, e, m, apply(f, x, y), 9)
				}
			}
		}
	}
}
