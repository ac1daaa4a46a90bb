package doc_test

import (
	"fmt"
	"math/rand"
	"regexp"
	"slices"
	"strings"
	"testing"

	"vademecum/admit"
	"vademecum/api"
	"vademecum/doc"
	"vademecum/env"
	"vademecum/infer"
	"vademecum/section"
	"vademecum/sent"
	"vademecum/syntax"
	"vademecum/term"
)

// The model is the chapter word by word, with a row of declarations that is gone through for each name, and variables with all that they are.

var aRec = regexp.MustCompile(`^([a-zA-Z][a-zA-Z0-9_.]*)\.rec$`)

// model: all declarations, and what is open.
type model struct {
	l     []api.Decl
	opens []api.Open
}

// full is the names of the namespaces, and the name.
func full(l []api.Open, name string) string {
	for i := len(l) - 1; i >= 0; i-- {
		if !l[i].Section {
			name = l[i].Name + "." + name
		}
	}
	return name
}

// there tells whether a declaration has a name, or is the family of a recursor.
func there(l []api.Decl, whole string) bool {
	rec := aRec.FindStringSubmatch(whole)
	if rec != nil && !term.IsName(rec[1]) {
		rec = nil // too long, as a rule
	}
	return slices.ContainsFunc(l, func(d api.Decl) bool {
		return rec == nil && d.Name == whole || rec != nil && d.Name == rec[1] && d.Kind == api.DFamily
	})
}

// find takes what is open away one by one.
func find(l []api.Decl, opens []api.Open, name string) (string, bool) {
	for n := len(opens); n >= 0; n-- {
		if whole := full(opens[:n], name); there(l, whole) {
			return whole, true
		}
	}
	return name, false
}

// whole is a term with whole names; false, if one isn't there.
func whole(l []api.Decl, opens []api.Open, t *api.Term) (*api.Term, bool) {
	if t == nil {
		return nil, true
	}
	name, ok := t.Name, true
	if t.Kind == api.TConst {
		name, ok = find(l, opens, name)
	}
	a, okA := whole(l, opens, t.A)
	b, okB := whole(l, opens, t.B)
	c, okC := whole(l, opens, t.C)
	return &api.Term{Kind: t.Kind, N: t.N, Name: name, A: a, B: b, C: c}, ok && okA && okB && okC
}

// asIfThere are the declarations with a family, in the place of what there is of its name.
func asIfThere(l []api.Decl, family string) []api.Decl {
	l = slices.DeleteFunc(slices.Clone(l), func(d api.Decl) bool { return d.Name == family })
	return append(l, api.Decl{Kind: api.DFamily, Name: family})
}

// env is an Env of the declarations.
func (m model) env() *env.Env {
	e := env.New()
	for _, d := range m.l {
		next, err := e.Add(d)
		if err != nil {
			panic(d.Name)
		}
		e = next
	}
	return e
}

// uses tells whether something of a name leads to a variable.
func (m model) uses(t *api.Term, variable string, seen map[string]bool) bool {
	for _, name := range term.Names(t) {
		if rec := aRec.FindStringSubmatch(name); rec != nil {
			name = rec[1]
		}
		if name == variable {
			return true
		}
		if seen[name] {
			continue
		}
		seen[name] = true
		for _, d := range m.l {
			if d.Name == name && (m.uses(d.Type, variable, seen) || m.uses(d.Value, variable, seen)) {
				return true
			}
			for _, c := range d.Family.Cons {
				if d.Name == name && m.uses(c.Type, variable, seen) {
					return true
				}
			}
		}
	}
	return false
}

// isTold tells whether all terms of a sentence are terms.
func isTold(x api.Sentence) bool {
	l := []*api.Term{x.A}
	if x.Kind == api.SDef {
		l = append(l, x.B)
	}
	for _, c := range x.Cons {
		if x.Kind == api.SFamily {
			l = append(l, c.Type)
		}
	}
	return !slices.ContainsFunc(l, func(t *api.Term) bool { return !term.Is(t) })
}

// inSection tells whether a section was opened last.
func (m model) inSection() bool {
	return len(m.opens) > 0 && m.opens[len(m.opens)-1].Section
}

// declare is what axioms, variables, definitions and families come to.
func (m model) declare(x api.Sentence, fuel int) (model, error) {
	switch {
	case !isTold(x):
		return m, api.ErrForm
	case x.Kind == api.SVar && !m.inSection():
		return m, api.ErrOpen
	}
	name := full(m.opens, x.Name)
	a, ok := whole(m.l, m.opens, x.A)
	if !ok {
		return m, api.ErrName
	}
	var e *env.Env
	var err error
	switch x.Kind {
	case api.SAxiom, api.SVar:
		e, err = admit.Axiom(m.env(), name, a, fuel)
	case api.SDef:
		b, ok := whole(m.l, m.opens, x.B)
		if !ok {
			return m, api.ErrName
		}
		e, err = admit.Def(m.env(), name, a, b, fuel)
	case api.SFamily:
		e, err = m.family(name, x, a, fuel)
	}
	if err != nil {
		return m, err
	}
	m.l = e.List()
	if x.Kind == api.SVar {
		m.opens = slices.Clone(m.opens)
		o := &m.opens[len(m.opens)-1]
		o.Vars = append(slices.Clone(o.Vars), m.l[len(m.l)-1])
	}
	return m, nil
}

// family is what a family comes to.
func (m model) family(name string, x api.Sentence, a *api.Term, fuel int) (*env.Env, error) {
	var cons []api.Con
	for _, c := range x.Cons {
		b, ok := whole(asIfThere(m.l, name), m.opens, c.Type)
		if !ok {
			return nil, api.ErrName
		}
		cons = append(cons, api.Con{Name: full(m.opens, c.Name), Type: b})
	}
	e, err := admit.Family(m.env(), name, x.N, a, cons, fuel)
	if err != nil {
		return nil, err
	}
	for _, o := range m.opens {
		for _, v := range o.Vars {
			bad := m.uses(a, v.Name, map[string]bool{})
			for _, c := range cons {
				bad = bad || m.uses(c.Type, v.Name, map[string]bool{})
			}
			if bad {
				return nil, api.ErrPos
			}
		}
	}
	return e, nil
}

// end ends what was opened last.
func (m model) end(name string) (model, error) {
	if len(m.opens) == 0 || m.opens[len(m.opens)-1].Name != name {
		return m, api.ErrOpen
	}
	o := m.opens[len(m.opens)-1]
	if o.Section {
		e, err := section.Close(m.env(), o.From, o.Vars)
		if err != nil {
			return m, err
		}
		m.l = e.List()
	}
	m.opens = m.opens[:len(m.opens)-1]
	return m, nil
}

// printed is the sentence of what a name says.
func (m model) printed(name string) (string, error) {
	name, _ = find(m.l, m.opens, name)
	for range 2 {
		at := slices.IndexFunc(m.l, func(d api.Decl) bool { return d.Name == name })
		if at < 0 {
			return "", api.ErrName
		}
		d := m.l[at]
		switch d.Kind {
		case api.DAxiom:
			return sent.Print(api.Sentence{Kind: api.SAxiom, Name: name, A: d.Type}), nil
		case api.DDef:
			return sent.Print(api.Sentence{Kind: api.SDef, Name: name, A: d.Type, B: d.Value}), nil
		case api.DFamily:
			return sent.Print(api.Sentence{Kind: api.SFamily, Name: name, A: d.Type, N: d.Family.Params, Cons: d.Family.Cons}), nil
		}
		name = d.Of
	}
	panic(name)
}

// do is what a sentence comes to.
func (m model) do(x api.Sentence, fuel int) (model, string, error) {
	text := ""
	err := error(api.ErrForm)
	switch x.Kind {
	case api.SAxiom, api.SVar, api.SDef, api.SFamily:
		m, err = m.declare(x, fuel)
	case api.SSpace, api.SSection:
		if err = api.ErrOpen; len(m.opens) < 6 {
			err = nil
			m.opens = append(slices.Clone(m.opens), api.Open{Section: x.Kind == api.SSection, Name: x.Name, From: len(m.l)})
		}
	case api.SEnd:
		m, err = m.end(x.Name)
	case api.SCheck:
		if !term.Is(x.A) {
			return m, "", api.ErrForm
		}
		a, ok := whole(m.l, m.opens, x.A)
		if !ok {
			return m, "", api.ErrName
		}
		a, _, err = infer.Infer(m.env(), nil, a, min(fuel, 20000))
		text = syntax.Print(a)
	case api.SPrint:
		text, err = m.printed(x.Name)
	}
	if err != nil {
		return m, "", err
	}
	return m, text, nil
}

// tell is the model as a text.
func (m model) tell() string { return tellDecls(m.l) + tellOpens(m.opens) }

// pair: a document, and what it has to be.
type pair struct {
	d *doc.Doc
	m model
}

// do does a sentence twice, and holds what comes of it.
func (p pair) do(t *testing.T, x api.Sentence, fuel int) (pair, string, error) {
	t.Helper()
	what := func() string { return fmt.Sprintf("%s%s by %d", p.m.tell(), tellSentence(x), fuel) }
	m, text, err := p.m.do(x, fuel)
	next, got, is := p.d.Do(x, fuel)
	if got != text || numberOf(is) != numberOf(err) || (next == nil) != (err != nil) {
		t.Fatalf("%s: %q, %v; want %q, %v", what(), got, is, text, err)
	}
	if err != nil {
		if tellDoc(p.d) != p.m.tell() {
			t.Fatalf("%s: the document is changed:\n%s", what(), tellDoc(p.d))
		}
		return p, text, err
	}
	if tellDoc(next) != m.tell() {
		t.Fatalf("%s:\n%swant\n%s", what(), tellDoc(next), m.tell())
	}
	return pair{next, m}, text, nil
}

// maker makes random sentences about a document.
type maker struct {
	r *rand.Rand
	m model
}

func (k *maker) oneIn(n int) bool { return k.r.Intn(n) == 0 }

func (k *maker) oneOf(l ...string) string { return l[k.r.Intn(len(l))] }

// name is a name of a few, so that they meet.
func (k *maker) name() string {
	name := k.oneOf("a", "b", "c", "d", "e", "f", "g", "h", "i", "k", "l", "m", "n", "p", "q", "r", "u", "v", "w", "x")
	if k.oneIn(12) {
		name = k.oneOf("a", "b", "s") + "." + name
	}
	return name
}

// ofType are the constants of just a type, rather late ones, and rather variables.
func (k *maker) ofType(a *api.Term) []*api.Term {
	var l []*api.Term
	for _, o := range k.m.opens {
		for _, v := range o.Vars {
			if term.Same(v.Type, a) {
				l = append(l, constant(v.Name), constant(v.Name), constant(v.Name))
			}
		}
	}
	for i, d := range k.m.l {
		if term.Same(d.Type, a) {
			l = append(l, constant(d.Name))
			if i*2 > len(k.m.l) {
				l = append(l, constant(d.Name))
			}
		}
	}
	return l
}

// typ is a type of sort 0, by whole names.
func (k *maker) typ() *api.Term {
	l := k.ofType(sort(0))
	predicates := k.ofType(pi(constant("nat"), sort(0)))
	boxes := k.ofType(pi(sort(0), sort(0)))
	switch {
	case k.oneIn(4):
		return pi(k.typ(), k.typ())
	case k.oneIn(4) && len(predicates) > 0:
		return app(predicates[k.r.Intn(len(predicates))], k.value(constant("nat")))
	case k.oneIn(4) && len(boxes) > 0:
		return app(boxes[k.r.Intn(len(boxes))], k.typ())
	case len(l) > 0:
		return l[k.r.Intn(len(l))]
	}
	return constant("nat")
}

// value is a value of a type, if one is known.
func (k *maker) value(a *api.Term) *api.Term {
	l := k.ofType(a)
	switch {
	case len(l) > 0 && !k.oneIn(4):
		return l[k.r.Intn(len(l))]
	case a.Kind == api.TPi:
		return lam(a.A, k.value(a.B))
	case tell(a) == "nat" && k.oneIn(2):
		return app(constant("s"), k.value(a))
	case len(l) > 0 && k.oneIn(2):
		return app(lam(a, variable(0)), k.value(a))
	case len(l) > 0:
		return let(a, k.value(a), variable(0))
	case a.Kind == api.TSort && a.N == 0:
		return k.typ()
	}
	return constant("lacks")
}

// short is a term with each name said in one of the ways in which it may be said there.
func (k *maker) short(l []api.Decl, t *api.Term) *api.Term {
	if t == nil {
		return nil
	}
	x := *t
	x.A, x.B, x.C = k.short(l, t.A), k.short(l, t.B), k.short(l, t.C)
	for x.Kind == api.TConst {
		_, rest, ok := strings.Cut(x.Name, ".")
		if got, _ := find(l, k.m.opens, rest); !ok || got != t.Name || k.oneIn(5) {
			break
		}
		x.Name = rest
	}
	if x.Kind == api.TConst && k.oneIn(150) {
		x.Name = k.name()
	}
	return &x
}

// said is a term as it is said there.
func (k *maker) said(t *api.Term) *api.Term { return k.short(k.m.l, t) }

// family is a family that often may be.
func (k *maker) family() api.Sentence {
	x := api.Sentence{Kind: api.SFamily, Name: k.name()}
	name := full(k.m.opens, x.Name)
	self := constant(name)
	form := k.r.Intn(3)
	switch form {
	case 0:
		x.A = sort(0)
	case 1:
		x.A, x.N = pi(sort(0), sort(0)), 1
	case 2:
		x.A = pi(constant("nat"), sort(0))
	}
	for range k.r.Intn(4) {
		c := api.Con{Name: k.name()}
		var parts []*api.Term
		for i := range k.r.Intn(3) {
			at := func(around int) *api.Term {
				switch form {
				case 1:
					return app(self, variable(i+around))
				case 2:
					return app(self, k.value(constant("nat")))
				}
				return self
			}
			part := []*api.Term{k.typ(), at(0), pi(k.typ(), at(1))}[k.r.Intn(3)]
			if k.oneIn(15) {
				part = []*api.Term{sort(0), app(constant(name+".rec"), at(0)), pi(at(0), constant("nat"))}[k.r.Intn(3)]
			}
			parts = append(parts, part)
		}
		end := self
		switch form {
		case 1:
			end = app(self, variable(len(parts)))
			parts = slices.Insert(parts, 0, sort(0))
		case 2:
			end = app(self, k.value(constant("nat")))
		}
		for _, p := range slices.Backward(parts) {
			end = pi(p, end)
		}
		c.Type = k.short(asIfThere(k.m.l, name), end)
		x.Cons = append(x.Cons, c)
	}
	x.A = k.said(x.A)
	return x
}

// sentence is a sentence that is often accepted.
func (k *maker) sentence() api.Sentence {
	x := api.Sentence{Name: k.name()}
	n := k.r.Intn(100)
	if n >= 46 && n < 61 && len(k.m.opens) > k.r.Intn(9) || n >= 61 && n < 72 && !k.m.inSection() && !k.oneIn(4) {
		n = k.r.Intn(46) // most of the time what may be
	}
	if k.m.inSection() && k.oneIn(6) {
		n = 61
	}
	switch {
	case n < 10:
		x.Kind, x.A = api.SAxiom, k.said(k.signature())
	case n < 28:
		a := k.signature()
		x.Kind, x.A, x.B = api.SDef, k.said(a), k.said(k.value(a))
	case n < 46:
		x = k.family()
	case n < 52:
		x.Kind, x.Name = api.SSpace, k.oneOf("s", "t", "a")
	case n < 61:
		x.Kind, x.Name = api.SSection, k.oneOf("s", "t", "a")
	case n < 72:
		x.Kind, x.A = api.SVar, k.said(k.signature())
	case n < 77:
		x.Kind, x.Name = api.SEnd, k.oneOf("s", "t", "a")
		if len(k.m.opens) > 0 && !k.oneIn(5) {
			x.Name = k.m.opens[len(k.m.opens)-1].Name
		}
	case n < 90:
		x.Kind, x.A = api.SCheck, k.said(k.value(k.typ()))
	case n < 98:
		x.Kind, x.Name = api.SPrint, k.said(constant(k.m.l[k.r.Intn(len(k.m.l))].Name)).Name
	default:
		x.Kind, x.N = k.r.Intn(18)-1, k.r.Intn(3)
		x.A = k.said(k.typ())
	}
	return x
}

// signature is a type, of whatever sort.
func (k *maker) signature() *api.Term {
	switch {
	case k.oneIn(4):
		return sort(0)
	case k.oneIn(6):
		return pi(constant("nat"), sort(0))
	case k.oneIn(9):
		return pi(sort(0), sort(0))
	}
	return k.typ()
}

// spoilt is a sentence with one thing otherwise.
func (k *maker) spoilt(x api.Sentence) api.Sentence {
	spoil := func(t *api.Term) *api.Term {
		if t == nil || k.oneIn(8) {
			return []*api.Term{nil, {}, sort(10), sort(9), variable(0), constant("zz"), constant("Type0"), constant("nat.rec"), {Kind: api.TVar, N: 1, Name: "a"}}[k.r.Intn(9)]
		}
		y := *t
		part := []**api.Term{&y.A, &y.B}[k.r.Intn(2)]
		if *part == nil {
			return []*api.Term{constant("o"), constant(k.name()), sort(k.r.Intn(10))}[k.r.Intn(3)]
		}
		*part = []*api.Term{nil, constant("zz"), constant("o"), constant("nat"), sort(3), variable(2)}[k.r.Intn(6)]
		return &y
	}
	switch k.r.Intn(6) {
	case 0:
		x.Name = k.oneOf("", "1", "nat", "o", "a b", "nat.rec", "a.rec", strings.Repeat("x", 22), strings.Repeat("x", 24), strings.Repeat("x", 25))
	case 1:
		x.Kind = k.r.Intn(16)
	case 2:
		x.N = k.r.Intn(16) - 1
	case 3:
		x.B = spoil(x.B)
	case 4:
		if len(x.Cons) > 0 {
			x.Cons = slices.Clone(x.Cons)
			c := &x.Cons[k.r.Intn(len(x.Cons))]
			if c.Type = spoil(c.Type); k.oneIn(2) {
				c.Name = k.oneOf("", "o", "a.rec", strings.Repeat("x", 24), x.Name)
			}
		}
	default:
		x.A = spoil(x.A)
	}
	return x
}

// fuel is mostly enough.
func (k *maker) fuel() int {
	if k.oneIn(12) {
		return []int{-1, 0, 1, 2, 3, 5, 8, 13, 1 << 40}[k.r.Intn(9)]
	}
	return 4000
}

// outcome: how a sentence of a Kind ended.
type outcome struct {
	kind int
	err  api.Errno
}

// least: how often a random sentence of a Kind ends so, at least.
var least = map[outcome]int{
	{api.SAxiom, api.OK}: 1300, {api.SDef, api.OK}: 1400, {api.SFamily, api.OK}: 1200, {api.SVar, api.OK}: 1300, {api.SSpace, api.OK}: 700, {api.SSection, api.OK}: 1000, {api.SEnd, api.OK}: 500, {api.SCheck, api.OK}: 700, {api.SPrint, api.OK}: 1200,
	{api.SAxiom, api.ErrName}: 400, {api.SDef, api.ErrName}: 1500, {api.SFamily, api.ErrName}: 1000, {api.SVar, api.ErrName}: 800, {api.SCheck, api.ErrName}: 1000, {api.SPrint, api.ErrName}: 50,
	{api.SAxiom, api.ErrForm}: 50, {api.SDef, api.ErrForm}: 100, {api.SFamily, api.ErrForm}: 400, {api.SVar, api.ErrForm}: 50, {api.SCheck, api.ErrForm}: 8, {api.SCommit, api.ErrForm}: 40, {0, api.ErrForm}: 40,
	{api.SVar, api.ErrOpen}: 200, {api.SEnd, api.ErrOpen}: 250, {api.SSpace, api.ErrOpen}: 25, {api.SSection, api.ErrOpen}: 50, {api.SFamily, api.ErrPos}: 500,
	{api.SAxiom, api.ErrFuel}: 40, {api.SDef, api.ErrFuel}: 60, {api.SFamily, api.ErrFuel}: 70, {api.SVar, api.ErrFuel}: 50, {api.SCheck, api.ErrFuel}: 20, {api.SDef, api.ErrType}: 80,
}

func TestP22_1Random(t *testing.T) {
	k := &maker{r: rand.New(rand.NewSource(221))}
	outcomes := map[outcome]int{}
	let, needing := 0, 0
	for range 600 {
		p, _, err := pair{d: doc.New()}.do(t, read(nats), 100)
		if err != nil {
			t.Fatal(err)
		}
		for range 20 + k.r.Intn(80) {
			k.m = p.m
			x := k.sentence()
			if k.oneIn(8) {
				x = k.spoilt(x)
			}
			p, _, err = p.do(t, x, k.fuel())
			outcomes[outcome{x.Kind, numberOf(err)}]++
			switch {
			case err == error(api.ErrPos):
				needing++ // it isn't admit's
			case err == nil && x.Kind == api.SEnd && p.m.changed(k.m):
				let++
			}
		}
	}
	for o, n := range least {
		if outcomes[o] < n {
			t.Errorf("Kind %d, %v: %d", o.kind, o.err, outcomes[o])
		}
	}
	if let < 60 || needing < 150 {
		t.Errorf("%d sections changed what they left, %d families needed variables", let, needing)
	}
}

// Families with names that are as long as they may be, or longer, and like recursors' ones.
func TestP22_1RandomFamilyNames(t *testing.T) {
	k := &maker{r: rand.New(rand.NewSource(222))}
	outcomes := map[api.Errno]int{}
	for range 4000 {
		p := pair{d: doc.New()}
		say := func(x api.Sentence) {
			t.Helper()
			var err error
			p, _, err = p.do(t, x, 100)
			if x.Kind == api.SFamily && len(x.Cons) > 0 {
				outcomes[numberOf(err)]++
			}
		}
		for range 1 + k.r.Intn(5) {
			name := k.oneOf("t", "rec", "t", "rec", strings.Repeat("y", 15+k.r.Intn(9)))
			say(api.Sentence{Kind: []int{api.SSpace, api.SSpace, api.SSpace, api.SSection, api.SFamily}[k.r.Intn(5)], Name: name, A: sort(0)})
		}
		x := api.Sentence{Kind: api.SFamily, Name: k.oneOf("t", "tt", "rec", "t.rec", "rec.t", "rec.rec"), A: sort(0)}
		k.m = p.m
		names := []string{x.Name, x.Name, "t", "t.rec", "rec", "rec.rec", "t.rec.rec"}
		for i, o := range p.m.opens {
			names = append(names, o.Name+"."+x.Name, full(p.m.opens[i:], x.Name))
		}
		for range 1 + k.r.Intn(2) {
			a := constant(names[k.r.Intn(len(names))])
			if k.oneIn(3) && !strings.HasSuffix(a.Name, ".rec.rec") {
				a.Name += ".rec"
			}
			x.Cons = append(x.Cons, api.Con{Name: fmt.Sprint("k", len(x.Cons)), Type: a})
		}
		say(x)
	}
	for err, n := range map[api.Errno]int{api.OK: 50, api.ErrForm: 500, api.ErrName: 1000, api.ErrPos: 100} {
		if outcomes[err] < n {
			t.Errorf("%v: %d", err, outcomes[err])
		}
	}
}

// changed tells whether a declaration isn't what it was.
func (m model) changed(before model) bool {
	return slices.ContainsFunc(m.l, func(d api.Decl) bool {
		return !slices.ContainsFunc(before.l, func(was api.Decl) bool { return env.Same(d, was) })
	})
}
