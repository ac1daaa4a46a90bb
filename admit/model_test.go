package admit_test

import (
	"math/rand"
	"regexp"
	"strconv"
	"strings"
	"testing"

	"vademecum/api"
	"vademecum/env"
	"vademecum/infer"
	"vademecum/posit"
	"vademecum/shift"
	"vademecum/term"
)

// The model is the chapter word by word, with an Env made anew from the declarations that are there.

// nameForm is what names are.
var nameForm = regexp.MustCompile(`^[a-zA-Z][a-zA-Z0-9_]*(\.[a-zA-Z][a-zA-Z0-9_]*)*$`)

// isName tells whether a declaration may have a name.
func isName(s string) bool {
	return len(s) <= 24 && nameForm.MatchString(s) && !(strings.HasSuffix(s, ".rec") && len(s) > 4)
}

// model: the declarations that are there, and what is left of fuel.
type model struct {
	l    []api.Decl
	fuel int
}

// env is an Env of the declarations.
func (m *model) env(t *testing.T) *env.Env {
	t.Helper()
	return added(t, env.New(), m.l...)
}

// taken tells whether there is one of a name.
func (m *model) taken(name string) bool {
	for _, d := range m.l {
		if d.Name == name {
			return true
		}
	}
	return false
}

// sort is infer's, by what is left of fuel.
func (m *model) sort(t *testing.T, ctx []*api.Term, a *api.Term) (int, error) {
	t.Helper()
	n, left, err := infer.Sort(m.env(t), ctx, a, m.fuel)
	m.fuel = left
	return n, err
}

// single is P18.1.
func (m *model) single(t *testing.T, c call) api.Errno {
	t.Helper()
	if !isName(c.name) || !term.Is(c.a) || c.kind == api.DDef && !term.Is(c.b) {
		return api.ErrForm
	}
	if m.taken(c.name) {
		return api.ErrName
	}
	if _, err := m.sort(t, nil, c.a); err != nil {
		return numberOf(err)
	}
	if c.kind == api.DDef {
		left, err := infer.Check(m.env(t), nil, c.b, c.a, m.fuel)
		if err != nil {
			return numberOf(err)
		}
		m.fuel = left
	}
	if len(m.l) >= api.MaxDecls {
		return api.ErrFull
	}
	m.l = append(m.l, c.decls()...)
	return api.OK
}

// family is P18.2.
func (m *model) family(t *testing.T, c call) api.Errno {
	t.Helper()
	if _, err := posit.Shape(c.name, c.params, c.a, c.cons); err != nil {
		return numberOf(err)
	}
	l := c.decls()
	for _, d := range l {
		if m.taken(d.Name) {
			return api.ErrName
		}
	}
	if _, err := m.sort(t, nil, c.a); err != nil {
		return numberOf(err)
	}
	if len(m.l) >= api.MaxDecls {
		return api.ErrFull
	}
	m.l = append(m.l, l[0])
	for _, con := range c.cons {
		if err := m.constructor(t, con.Type, c.params, l[0].Family.Sort); err != api.OK {
			return err
		}
	}
	if m.l = append(m.l, l[1:]...); len(m.l) > api.MaxDecls {
		return api.ErrFull
	}
	return api.OK
}

// constructor is what is asked of each constructor's type.
func (m *model) constructor(t *testing.T, x *api.Term, params, most int) api.Errno {
	t.Helper()
	if _, err := m.sort(t, nil, x); err != nil {
		return numberOf(err)
	}
	var ctx []*api.Term
	for ; x.Kind == api.TPi; x = x.B {
		if len(ctx) >= params {
			n, err := m.sort(t, ctx, x.A)
			if err != nil {
				return numberOf(err)
			}
			if n > most {
				return api.ErrSort
			}
		}
		ctx = append(ctx, x.A)
	}
	return api.OK
}

// call is the one or the other.
func (m *model) call(t *testing.T, c call) api.Errno {
	t.Helper()
	if c.kind == api.DFamily {
		return m.family(t, c)
	}
	return m.single(t, c)
}

// agree holds a call against the model, and tells the Env, or none, and the error's number.
func agree(t *testing.T, e *env.Env, c call, fuel int) (*env.Env, api.Errno) {
	t.Helper()
	m := &model{e.List(), min(max(fuel, 0), api.MaxFuel)}
	before := dumpDecls(m.l)
	want := m.call(t, c)
	next, err := c.on(e, fuel)
	switch {
	case numberOf(err) != want || (err == nil) != (want == api.OK) || (next == nil) != (err != nil):
		t.Errorf("%v by %d, among %d: %v, want %v", c, fuel, e.Len(), err, want)
	case next != nil && dumpDecls(next.List()) != dumpDecls(m.l):
		t.Errorf("%v by %d, among %d: %.2000s, want %.2000s", c, fuel, e.Len(), dumpDecls(next.List()), dumpDecls(m.l))
	case dumpDecls(e.List()) != before:
		t.Errorf("%v by %d: changed", c, fuel)
	}
	return next, want
}

// maker makes random declarations.
type maker struct {
	r *rand.Rand
	l []api.Decl
	// wrong: how often of a hundred times something is made otherwise than it has to be.
	wrong int
}

// chance is true once in n times.
func (m maker) chance(n int) bool { return m.r.Intn(n) == 0 }

// errs tells whether something is made otherwise.
func (m maker) errs() bool { return m.r.Intn(100) < m.wrong }

// oneOf is one of some texts.
func (m maker) oneOf(l ...string) string { return l[m.r.Intn(len(l))] }

// under1 is ctx with one variable more.
func under1(ctx []*api.Term, a *api.Term) []*api.Term {
	return append(ctx[:len(ctx):len(ctx)], a)
}

// ofType are the variables and constants of just a type.
func (m maker) ofType(a *api.Term, ctx []*api.Term) []*api.Term {
	var l []*api.Term
	for n := range ctx {
		if term.Same(shift.Lift(ctx[len(ctx)-1-n], n+1, 0), a) {
			l = append(l, variable(n), variable(n))
		}
	}
	for _, d := range m.l {
		if term.Same(d.Type, a) {
			l = append(l, constant(d.Name))
		}
	}
	return l
}

// garbage is a random term, of whatever type.
func (m maker) garbage(around int) *api.Term {
	switch m.r.Intn(8) {
	case 0:
		return sort(m.r.Intn(10))
	case 1:
		return constant("nowhere")
	case 2:
		return rec(m.oneOf("nat.rec", "void.rec", "y.rec", "list.rec"), m.r.Intn(10))
	case 3:
		return app(m.garbage(around), m.garbage(around))
	case 4:
		return lam(sort(0), m.garbage(around+1))
	case 5:
		return pi(m.garbage(around), m.garbage(around+1))
	case 6:
		return variable(m.r.Intn(around + 1))
	}
	return constant(m.l[m.r.Intn(len(m.l))].Name)
}

// typ is a random type, mostly.
func (m maker) typ(ctx []*api.Term, levels int) *api.Term {
	if m.errs() && m.chance(2) {
		return m.garbage(len(ctx))
	}
	if levels <= 0 {
		if l := m.ofType(sort(0), ctx); m.chance(2) {
			return l[m.r.Intn(len(l))]
		}
		return constant(m.oneOf("nat", "nat", "n", "void", "arrow"))
	}
	levels--
	switch m.r.Intn(10) {
	case 0, 1, 2:
		a := m.typ(ctx, levels)
		return pi(a, m.typ(under1(ctx, a), levels))
	case 3:
		return app(constant("list"), m.typ(ctx, levels))
	case 4:
		return apply(constant("vec"), m.typ(ctx, levels), m.of(constant("nat"), ctx, levels))
	case 5:
		a := m.typ(ctx, levels)
		return apply(constant("eq"), a, m.of(a, ctx, levels), m.of(a, ctx, levels))
	case 6:
		return app(constant("p"), m.of(constant("nat"), ctx, levels))
	case 7:
		return sort(m.r.Intn(3))
	case 8:
		return app(lam(sort(1), variable(0)), m.typ(ctx, levels))
	}
	return m.typ(ctx, 0)
}

// of is a random term of a type, mostly.
func (m maker) of(a *api.Term, ctx []*api.Term, levels int) *api.Term {
	if m.errs() && m.chance(2) {
		return m.garbage(len(ctx))
	}
	if l := m.ofType(a, ctx); len(l) > 0 && (levels <= 0 || m.chance(3)) {
		return l[m.r.Intn(len(l))]
	}
	if levels > 0 && m.chance(4) {
		b := m.typ(ctx, levels-2)
		x, v := m.of(shift.Lift(a, 1, 0), under1(ctx, b), levels-1), m.of(b, ctx, levels-2)
		if m.chance(2) {
			return let(b, v, x)
		}
		return app(lam(b, x), v)
	}
	head, args := a, []*api.Term{}
	for head.Kind == api.TApp {
		head, args = head.A, append([]*api.Term{head.B}, args...)
	}
	switch {
	case a.Kind == api.TSort:
		return m.typ(ctx, max(levels-1, 0))
	case a.Kind == api.TPi:
		return lam(a.A, m.of(a.B, under1(ctx, a.A), levels))
	case head.Kind == api.TConst:
		return m.made(head.Name, args, ctx, levels-1)
	}
	return m.garbage(len(ctx))
}

// made is a random term of a type that is a constant applied.
func (m maker) made(name string, args, ctx []*api.Term, levels int) *api.Term {
	nat := constant("nat")
	switch {
	case (name == "nat" || name == "n") && levels > 0 && m.chance(2):
		return app(constant(m.oneOf("s", "inc")), m.of(nat, ctx, levels))
	case name == "nat" && levels > 0:
		return apply(constant("plus"), m.of(nat, ctx, levels-1), m.of(nat, ctx, levels-1))
	case name == "nat" || name == "n":
		return constant(m.oneOf("o", "y", "one", "two"))
	case name == "arrow":
		return constant(m.oneOf("s", "inc"))
	case name == "list" && len(args) == 1 && levels > 0:
		return apply(constant("cons"), args[0], m.of(args[0], ctx, levels), m.of(app(constant("list"), args[0]), ctx, levels))
	case name == "list" && len(args) == 1:
		return app(constant("nil"), args[0])
	case name == "vec" && len(args) == 2:
		return app(constant("vnil"), args[0])
	case name == "eq" && len(args) == 3:
		return apply(constant("refl"), args[0], args[1])
	case name == "p" && len(args) == 1:
		return app(constant("d"), args[0])
	}
	return m.garbage(len(ctx))
}

// name is a random name, mostly a free one.
func (m maker) name() string {
	switch {
	case m.errs() && m.chance(4):
		return m.oneOf("", "a.rec", "nat.rec", "1", "a..b", strings.Repeat("x", 25))
	case m.errs() && m.chance(2):
		return m.l[m.r.Intn(len(m.l))].Name
	}
	return m.oneOf("a", "b", "c", "x", "z.a") + strconv.Itoa(m.r.Intn(3000))
}

// index is the type of an index, by the number of parameters that it stands under: one of them, perhaps, or none.
type index struct {
	param  int
	closed *api.Term
}

// at is the type of an index behind so many binders from the first parameter on.
func (i index) at(around int) *api.Term {
	if i.closed != nil {
		return i.closed
	}
	return variable(around - 1 - i.param)
}

// telescope makes a family's parameters, each a type or of one that is a parameter, and indices.
func (m maker) telescope() ([]*api.Term, []index) {
	var params []*api.Term
	var types []int
	for k := range m.r.Intn(4) {
		if len(types) > 0 && m.chance(2) {
			params = append(params, variable(k-1-types[m.r.Intn(len(types))]))
			continue
		}
		types = append(types, k)
		params = append(params, sort(m.r.Intn(2)))
	}
	var l []index
	for range m.r.Intn(3) {
		if len(types) > 0 && m.chance(2) {
			l = append(l, index{param: types[m.r.Intn(len(types))]})
		} else {
			l = append(l, index{closed: m.typ(nil, m.r.Intn(2))})
		}
	}
	return params, l
}

// whole is products of types around a term.
func whole(ctx []*api.Term, end *api.Term) *api.Term {
	for i := len(ctx) - 1; i >= 0; i-- {
		end = pi(ctx[i], end)
	}
	return end
}

// family is a random family.
func (m maker) family() call {
	params, l := m.telescope()
	c := call{kind: api.DFamily, name: m.name(), params: len(params)}
	ctx := params
	for _, i := range l {
		ctx = under1(ctx, i.at(len(ctx)))
	}
	c.a = whole(ctx, sort(m.r.Intn(3)))
	if m.errs() && m.chance(3) {
		c.a, c.params = m.garbage(0), m.r.Intn(3)
	}
	for range m.r.Intn(4) {
		ctx := params
		for range m.r.Intn(4) {
			if m.chance(2) {
				ctx = under1(ctx, m.typ(ctx, m.r.Intn(3)))
				continue
			}
			// An argument that ends in the family, perhaps under a product.
			own := ctx
			for range m.r.Intn(2) {
				own = under1(own, m.typ(own, m.r.Intn(2)))
			}
			ctx = under1(ctx, whole(own[len(ctx):], m.ends(c.name, len(params), l, own)))
		}
		c.cons = append(c.cons, api.Con{Name: m.name(), Type: whole(ctx, m.ends(c.name, len(params), l, ctx))})
	}
	return c
}

// ends is a family applied to its parameters and to random indices, under a ctx that begins with the parameters.
func (m maker) ends(name string, params int, l []index, ctx []*api.Term) *api.Term {
	x := constant(name)
	for i := range params {
		x = app(x, variable(len(ctx)-1-i))
	}
	for _, i := range l {
		x = app(x, m.of(i.at(len(ctx)), ctx, m.r.Intn(3)))
	}
	return x
}

// call is a random call.
func (m maker) call() call {
	switch m.r.Intn(3) {
	case 0:
		return call{kind: api.DAxiom, name: m.name(), a: m.typ(nil, m.r.Intn(4))}
	case 1:
		a := m.typ(nil, m.r.Intn(4))
		return call{kind: api.DDef, name: m.name(), a: a, b: m.of(a, nil, m.r.Intn(5))}
	}
	return m.family()
}

// documents calls a test with random calls, one behind the other, in Envs that what is let in makes greater.
func documents(t *testing.T, seed int64, rows, long int, test func(m maker, e *env.Env, c call) *env.Env) {
	t.Helper()
	r := rand.New(rand.NewSource(seed))
	for range rows {
		e := known(t)
		if r.Intn(5) == 0 {
			e = filled(t, e, api.MaxDecls-r.Intn(9))
		}
		wrong := []int{0, 5, 20}[r.Intn(3)]
		for range long {
			m := maker{r, e.List(), wrong}
			if next := test(m, e, m.call()); next != nil {
				e = next
			}
			if t.Failed() {
				t.Fatal("the first of them")
			}
		}
	}
}

func TestP18_1Random(t *testing.T) {
	counts := map[int]map[api.Errno]int{api.DAxiom: {}, api.DDef: {}, api.DFamily: {}}
	documents(t, 18, 160, 30, func(m maker, e *env.Env, c call) *env.Env {
		fuel := []int{0, 3, 20, 80, 400, 400, 400, api.MaxFuel, 1 << 40}[m.r.Intn(9)]
		next, err := agree(t, e, c, fuel)
		counts[c.kind][err]++
		return next
	})
	for kind, counts := range counts {
		for _, err := range []api.Errno{api.OK, api.ErrForm, api.ErrFull, api.ErrName, api.ErrType, api.ErrSort, api.ErrFun, api.ErrFuel, api.ErrPos, api.ErrVar} {
			// Only a family may be one that may not be, and it is ill-formed with variables around.
			if (err != api.ErrPos || kind == api.DFamily) && (err != api.ErrVar || kind != api.DFamily) && counts[err] < 5 {
				t.Errorf("Kind %d: %v only %d times", kind, err, counts[err])
			}
		}
		t.Log(kind, counts)
	}
}

// An Env may have declarations that were never let in.
func TestP18_1OddEnvs(t *testing.T) {
	round := lam(constant("nat"), nil)
	round.B = app(constant("s"), round)
	e := added(t, known(t),
		api.Decl{Kind: api.DDef, Name: "round", Type: sort(0), Value: round},
		api.Decl{Kind: api.DDef, Name: "again", Type: sort(0), Value: constant("again")},
		api.Decl{Kind: api.DDef, Name: "none", Type: sort(0)},
		api.Decl{Kind: api.DFamily, Name: "odd", Type: constant("o"), Family: api.Family{Params: -3, Indices: 7, Sort: 40, Cons: []api.Con{{}, {Name: "o", Type: pi(nil, nil)}}}},
		api.Decl{Kind: 77, Name: "kind77", Type: pi(variable(4), variable(5)), Value: sort(-1), Of: "nowhere"},
	)
	l := e.List()
	for _, a := range []*api.Term{constant("round"), constant("again"), constant("none"), constant("odd"), rec("odd.rec", 1), rec("odd.rec", 9), constant("kind77"), constant("nat")} {
		for _, b := range []*api.Term{a, app(a, constant("o")), app(constant("s"), a), let(a, constant("o"), sort(0)), pi(a, pi(a, sort(1)))} {
			for _, c := range []call{
				{kind: api.DAxiom, name: "x", a: b},
				{kind: api.DDef, name: "x", a: a, b: b},
				{kind: api.DDef, name: "x", a: b, b: constant("o")},
				{kind: api.DFamily, name: "x", a: pi(b, sort(0))},
				{kind: api.DFamily, name: "x", a: sort(0), cons: []api.Con{{Name: "c", Type: pi(b, constant("x"))}}},
			} {
				for _, fuel := range []int{3, 300} {
					m := &model{l[:len(l):len(l)], fuel}
					asks(t, e, c, fuel, m.call(t, c))
				}
			}
		}
	}
}
