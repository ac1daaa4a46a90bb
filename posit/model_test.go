package posit_test

import (
	"errors"
	"math/rand"
	"slices"
	"strconv"
	"testing"

	"vademecum/api"
	"vademecum/posit"
)

// The model asks terms whose variables tell who binds them, by no numbers, and looks at each place where the family stands.

// binder: who binds a variable. Two are the same only if they are one.
type binder struct{ _ int }

// named is a term whose variables tell who binds them.
type named struct {
	node    api.Term
	by      *binder
	a, b, c *named
}

func nameOf(by *binder) *named { return &named{node: api.Term{Kind: api.TVar}, by: by} }

func namedConst(name string, n int) *named {
	return &named{node: api.Term{Kind: api.TConst, Name: name, N: n}}
}

func namedSort(n int) *named { return &named{node: api.Term{Kind: api.TSort, N: n}} }

func namedApp(f *named, l ...*named) *named {
	for _, x := range l {
		f = &named{node: api.Term{Kind: api.TApp}, a: f, b: x}
	}
	return f
}

// with is a row with one more, the innermost.
func with(l []*binder, b *binder) []*binder { return append(slices.Clone(l), b) }

// number tells a named term by numbers, under a row of binders.
func (x *named) number(l []*binder) *api.Term {
	if x == nil {
		return nil
	}
	t := x.node
	inB, inC := l, l
	switch t.Kind {
	case api.TVar:
		t.N = len(l) - 1 - slices.Index(l, x.by)
	case api.TPi, api.TLam:
		inB = with(l, x.by)
	case api.TLet:
		inC = with(l, x.by)
	}
	t.A, t.B, t.C = x.a.number(l), x.b.number(inB), x.c.number(inC)
	return &t
}

// stands tells whether the family f, or its recursor, is anywhere in a term.
func (x *named) stands() bool {
	return x != nil && (x.node.Kind == api.TConst && (x.node.Name == "f" || x.node.Name == "f.rec") || x.a.stands() || x.b.stands() || x.c.stands())
}

// alike tells whether two terms are the same, where some binders are held to be others.
func (x *named) alike(y *named, others map[*binder]*binder) bool {
	if x == nil || y == nil {
		return x == y
	}
	if x.node != y.node {
		return false
	}
	if x.node.Kind == api.TVar {
		by, ok := others[x.by]
		return ok && by == y.by
	}
	if x.by != nil {
		others[x.by] = y.by
	}
	return x.a.alike(y.a, others) && x.b.alike(y.b, others) && x.c.alike(y.c, others)
}

// ends tells whether a term is the family applied to the variables of some binders, and to terms without the family; how many of these.
func (x *named) ends(params []*binder) (int, bool) {
	var l []*named
	for x.node.Kind == api.TApp {
		l = append(l, x.b)
		x = x.a
	}
	if x.node.Kind != api.TConst || x.node.Name != "f" || len(l) < len(params) {
		return 0, false
	}
	for i, y := range l {
		if at := len(l) - 1 - i; at >= len(params) && y.stands() || at < len(params) && (y.node.Kind != api.TVar || y.by != params[at]) {
			return 0, false
		}
	}
	return len(l) - len(params), true
}

// plain tells whether a term is Plain.
func (x *named) plain(params []*binder) bool {
	if x.node.Kind == api.TPi {
		return !x.a.stands() && x.b.plain(params)
	}
	_, ok := x.ends(params)
	return ok
}

// modelType tells of a family's type how many indices it has, and its sort; whether it may be one.
func modelType(x *named, params int) (int, int, bool) {
	n := 0
	for ; x.node.Kind == api.TPi; n++ {
		if x.a.stands() {
			return 0, 0, false
		}
		x = x.b
	}
	return n - params, x.node.N, x.node.Kind == api.TSort && params <= n && n <= 12
}

// modelCon tells whether a type may be a constructor's, where the family's is as it may be.
func modelCon(x, typ *named, params, indices int) bool {
	var l []*binder
	others := map[*binder]*binder{}
	for ; len(l) < params; x, typ = x.b, typ.b {
		if x.node.Kind != api.TPi || !x.a.alike(typ.a, others) {
			return false
		}
		l = append(l, x.by)
		others[x.by] = typ.by
	}
	n := 0
	for ; x.node.Kind == api.TPi; n++ {
		if x.a.stands() && !x.a.plain(l) {
			return false
		}
		x = x.b
	}
	ends, ok := x.ends(l)
	return ok && ends == indices && n <= 12
}

// maker makes random families.
type maker struct {
	r *rand.Rand
	// wrong: how often of a hundred times something is made otherwise than it has to be.
	wrong int
}

// errs tells whether something is made otherwise.
func (m maker) errs() bool { return m.r.Intn(100) < m.wrong }

// term is a random term of so many nodes at most, without the family but by a mistake, under a row of binders.
func (m maker) term(nodes int, l []*binder) *named {
	switch {
	case m.errs() && m.errs():
		return namedConst([]string{"f", "f.rec"}[m.r.Intn(2)], 0)
	case nodes < 3 && len(l) > 0 && m.r.Intn(3) > 0:
		return nameOf(l[m.r.Intn(len(l))])
	case nodes < 3 && m.r.Intn(3) == 0:
		return namedSort(m.r.Intn(10))
	case nodes < 3:
		return namedConst([]string{"a", "b", "f.f", "g.f", "f.rec.a"}[m.r.Intn(5)], 0)
	}
	left := 1 + m.r.Intn(nodes-2)
	a, by := m.term(left, l), &binder{}
	switch m.r.Intn(7) {
	case 0:
		return &named{node: api.Term{Kind: api.TLet}, by: by, a: a, b: m.term(2, l), c: m.term(nodes-1-left, with(l, by))}
	case 1:
		return &named{node: api.Term{Kind: api.TLam}, by: by, a: a, b: m.term(nodes-1-left, with(l, by))}
	case 2, 3:
		return &named{node: api.Term{Kind: api.TPi}, by: by, a: a, b: m.term(nodes-1-left, with(l, by))}
	}
	return namedApp(a, m.term(nodes-1-left, l))
}

// under puts so many products of random types around what is made under them.
func (m maker) under(n int, l []*binder, made func(l []*binder) *named) *named {
	if n <= 0 {
		return made(l)
	}
	by, kind := &binder{}, api.TPi
	if m.errs() && m.errs() {
		kind = api.TLam
	}
	return &named{node: api.Term{Kind: kind}, by: by, a: m.term(1+m.r.Intn(6), l), b: m.under(n-1, with(l, by), made)}
}

// family is the family applied to parameters, and to so many random terms more.
func (m maker) family(params, l []*binder, n int) *named {
	x := namedConst("f", 0)
	if m.errs() && m.errs() {
		x = namedConst("f.rec", m.r.Intn(3))
	}
	for i := range params {
		if m.errs() {
			x = namedApp(x, m.term(1, l))
		} else {
			x = namedApp(x, nameOf(params[i]))
		}
	}
	if m.errs() {
		n += m.r.Intn(3) - 1
	}
	for range n {
		x = namedApp(x, m.term(1+m.r.Intn(6), l))
	}
	return x
}

// typ is the type of a family.
func (m maker) typ(n int) *named {
	return m.under(n, nil, func(l []*binder) *named {
		if m.errs() {
			return m.term(3, l)
		}
		return namedSort(m.r.Intn(10))
	})
}

// copied is a term with binders of its own.
func (x *named) copied(own map[*binder]*binder) *named {
	if x == nil {
		return nil
	}
	y := *x
	if y.node.Kind == api.TVar {
		if by := own[x.by]; by != nil {
			y.by = by
		}
		return &y
	}
	if x.by != nil {
		y.by = &binder{}
		own[x.by] = y.by
	}
	y.a, y.b, y.c = x.a.copied(own), x.b.copied(own), x.c.copied(own)
	return &y
}

// con is the type of a constructor of a family of a type.
func (m maker) con(typ *named, params, indices int) *named {
	var l []*binder
	top := &named{}
	last := top
	own := map[*binder]*binder{}
	for range params {
		if typ.node.Kind != api.TPi || m.errs() && m.errs() {
			break
		}
		p := &named{node: api.Term{Kind: api.TPi}, by: &binder{}, a: typ.a.copied(own)}
		if m.errs() && m.errs() {
			p.a = m.term(3, l)
		}
		own[typ.by] = p.by
		last.b, last, l, typ = p, p, with(l, p.by), typ.b
	}
	ps := l
	for n := m.r.Intn(5); n > 0; n-- {
		p := &named{node: api.Term{Kind: api.TPi}, by: &binder{}, a: m.argument(ps, l, indices)}
		last.b, last, l = p, p, with(l, p.by)
	}
	last.b = m.family(ps, l, indices)
	if m.errs() && m.errs() {
		last.b = m.term(3, l)
	}
	return top.b
}

// argument is the type of an argument.
func (m maker) argument(params, l []*binder, indices int) *named {
	if m.r.Intn(2) == 0 {
		return m.term(1+m.r.Intn(8), l)
	}
	return m.under(max(m.r.Intn(6)-2, 0), l, func(l []*binder) *named { return m.family(params, l, indices) })
}

// agrees holds Shape and Plain of a random family against the model; whether it may be.
func (m maker) agrees(t *testing.T) bool {
	t.Helper()
	params := m.r.Intn(4)
	typ := m.typ(params + m.r.Intn(4))
	if m.errs() {
		params += m.r.Intn(5) - 2
		params = max(params, 0)
	}
	indices, into, ok := modelType(typ, params)
	want := api.Family{Params: params, Indices: indices, Sort: into}
	for k := range m.r.Intn(4) {
		x := m.con(typ, params, indices)
		ok = ok && modelCon(x, typ, params, indices)
		want.Cons = append(want.Cons, api.Con{Name: "c" + strconv.Itoa(k), Type: x.number(nil)})
	}
	a := typ.number(nil)
	before := dump(a) + dumpCons(want.Cons)
	got, err := posit.Shape("f", params, a, want.Cons)
	switch {
	case ok && (err != nil || dumpFamily(got) != dumpFamily(want)):
		t.Errorf("%d %s: %s, %v", params, before, dumpFamily(got), err)
	case !ok && (!errors.Is(err, api.ErrPos) || dumpFamily(got) != dumpFamily(api.Family{})):
		t.Errorf("%d %s: %s, %v; want none", params, before, dumpFamily(got), err)
	case dump(a)+dumpCons(want.Cons) != before:
		t.Errorf("%s: changed", before)
	}
	return ok
}

func TestP17_1Random(t *testing.T) {
	for _, wrong := range []int{0, 4, 12} {
		m := maker{rand.New(rand.NewSource(17)), wrong}
		may, mayNot := 0, 0
		for range 6000 {
			if m.agrees(t) {
				may++
			} else {
				mayNot++
			}
			if t.Failed() {
				t.Fatal("of the first ones")
			}
		}
		if wrong == 0 && mayNot > 0 || wrong > 0 && (may < 1000 || mayNot < 1000) {
			t.Errorf("%d that may be, %d that may not", may, mayNot)
		}
	}
}

func TestP17_2Random(t *testing.T) {
	m := maker{rand.New(rand.NewSource(1717)), 8}
	is := 0
	for range 20000 {
		var l []*binder
		for range m.r.Intn(6) {
			l = append(l, &binder{})
		}
		// The parameters stand anywhere among what is around.
		n := m.r.Intn(min(len(l), 3) + 1)
		from := m.r.Intn(len(l) - n + 1)
		params := l[from : from+n]
		x := m.argument(params, l, m.r.Intn(3))
		want, got := x.plain(params), posit.Plain("f", n, len(l)-from, x.number(l))
		if got != want {
			t.Fatalf("%d parameters, %d around: %s: %v", n, len(l)-from, dump(x.number(l)), got)
		}
		if want {
			is++
		}
	}
	if is < 4000 || is > 16000 {
		t.Errorf("%d are Plain", is)
	}
}

// every is each term of so many nodes at most, of few leaves.
func every(nodes int, leaves []*api.Term) []*api.Term {
	l := slices.Clone(leaves)
	for left := 1; left < nodes-1; left++ {
		for _, a := range every(left, leaves) {
			for _, b := range every(nodes-1-left, leaves) {
				l = append(l, pi(a, b), lam(a, b), app(a, b), let(a, b, leaves[0]), let(leaves[0], a, b))
			}
		}
	}
	return l
}

// modelHas tells whether f or its recursor is in a term.
func modelHas(t *api.Term) bool {
	return t != nil && (t.Name == "f" || t.Name == "f.rec" || modelHas(t.A) || modelHas(t.B) || modelHas(t.C))
}

// modelPlain is Plain by what is within the outermost product, or application: n is the first parameter's variable here, and more how many arguments come behind.
func modelPlain(params, n, more int, a *api.Term) bool {
	switch a.Kind {
	case api.TPi:
		return more == 0 && !modelHas(a.A) && modelPlain(params, n+1, 0, a.B)
	case api.TApp:
		// How many arguments are ahead of this one?
		ahead := 0
		for f := a.A; f.Kind == api.TApp; f = f.A {
			ahead++
		}
		if ahead < params && *a.B != *variable(n - ahead) || ahead >= params && modelHas(a.B) {
			return false
		}
		return modelPlain(params, n, more+1, a.A)
	}
	return a.Kind == api.TConst && a.Name == "f" && more >= params
}

func TestP17_2EverySmallTerm(t *testing.T) {
	leaves := []*api.Term{constant("f"), constant("a"), variable(0), variable(1), rec("f.rec", 0)}
	plain := 0
	for _, a := range every(6, leaves) {
		for params := range 3 {
			for around := range 5 {
				want := modelPlain(params, around-1, 0, a)
				if got := posit.Plain("f", params, around, a); got != want {
					t.Fatalf("%s, %d parameters, %d around: %v", dump(a), params, around, got)
				}
				if want {
					plain++
				}
			}
		}
	}
	if plain < 1000 {
		t.Errorf("%d are Plain", plain)
	}
}

// Shape of each small constructor, without parameters, and with one.
func TestP17_1EverySmallConstructor(t *testing.T) {
	leaves := []*api.Term{constant("f"), constant("a"), variable(0)}
	for _, x := range every(5, leaves) {
		for indices := range 3 {
			typ, closed := sort(2), pi(constant("b"), x)
			for range indices {
				typ = pi(constant("b"), typ)
			}
			for params := range min(indices, 1) + 1 {
				_, err := posit.Shape("f", params, typ, []api.Con{{Name: "c", Type: closed}})
				want := modelSmall(closed, params, indices-params)
				if want && err != nil || !want && !errors.Is(err, api.ErrPos) {
					t.Fatalf("%s, %d parameters, %d indices: %v", dump(closed), params, indices-params, err)
				}
			}
		}
	}
}

// modelSmall tells whether a type may be a constructor's, whose parameter is of a type b.
func modelSmall(x *api.Term, params, indices int) bool {
	around := 0
	for ; x.Kind == api.TPi; x = x.B {
		if around >= params && modelHas(x.A) && !modelPlain(params, around-1, 0, x.A) {
			return false
		}
		around++
	}
	args := 0
	for f := x; f.Kind == api.TApp; f = f.A {
		args++
	}
	return around >= params && args == params+indices && modelPlain(params, around-1, 0, x)
}
