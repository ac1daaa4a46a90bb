package env_test

import (
	"errors"
	"fmt"
	"math"
	"slices"
	"strconv"
	"strings"
	"sync"
	"testing"

	"vademecum/api"
	"vademecum/env"
)

func sort(n int) *api.Term { return &api.Term{Kind: api.TSort, N: n} }

func variable(n int) *api.Term { return &api.Term{Kind: api.TVar, N: n} }

func constant(name string) *api.Term { return &api.Term{Kind: api.TConst, Name: name} }

func pi(a, b *api.Term) *api.Term { return &api.Term{Kind: api.TPi, A: a, B: b} }

func lam(a, b *api.Term) *api.Term { return &api.Term{Kind: api.TLam, A: a, B: b} }

func app(a, b *api.Term) *api.Term { return &api.Term{Kind: api.TApp, A: a, B: b} }

func let(a, b, c *api.Term) *api.Term { return &api.Term{Kind: api.TLet, A: a, B: b, C: c} }

// long is a name of so many bytes.
func long(n int) string { return strings.Repeat("a", n) }

// chain is a term of so many nodes, an odd number, nested to the left.
func chain(nodes int) *api.Term {
	t := sort(0)
	for range nodes / 2 {
		t = app(t, sort(0))
	}
	return t
}

// axiom is a declaration of a type alone.
func axiom(name string, a *api.Term) api.Decl {
	return api.Decl{Kind: api.DAxiom, Name: name, Type: a}
}

// nat is a family with two constructors.
func nat(name string) api.Decl {
	n := constant(name)
	return api.Decl{Kind: api.DFamily, Name: name, Type: sort(0), Family: api.Family{
		Params: 1, Indices: 2, Sort: 3, Cons: []api.Con{{Name: name + ".o", Type: n}, {Name: name + ".s", Type: pi(n, n)}},
	}}
}

// full is a declaration with something in each of its parts.
func full(name string) api.Decl {
	d := nat(name)
	d.Kind, d.Value, d.Of = api.DCon, lam(sort(1), let(sort(0), variable(0), constant("v"))), "of"
	return d
}

// every is a row of declarations of all kinds, and of some that there aren't: only names and types are asked for.
func every() []api.Decl {
	return []api.Decl{
		axiom("b", pi(sort(3), variable(0))),
		{Kind: api.DDef, Name: "a", Type: sort(9), Value: lam(sort(0), variable(0))},
		nat("s.nat"),
		{Kind: api.DCon, Name: "s.nat.o", Type: constant("s.nat"), Of: "s.nat"},
		full("all"),
		axiom("free", variable(100000)),
		{Name: "kindless", Type: sort(0)},
		{Kind: -5, Name: "odd", Type: sort(0), Value: sort(10), Of: "no name", Family: api.Family{Params: -1, Indices: math.MaxInt, Sort: math.MinInt}},
		{Kind: 77, Name: "untyped", Type: sort(0), Family: api.Family{Cons: []api.Con{{}, {Name: "1"}, {Type: app(nil, nil)}}}},
		{Kind: api.DFamily, Name: "many", Type: sort(0), Family: api.Family{Cons: make([]api.Con, 3*api.MaxCons)}},
	}
}

// tell is all that a declaration has, as a text: two texts are the same just where the declarations are.
func tell(d api.Decl) string {
	s := fmt.Sprintf("%d %q %s %s %d %d %d %q", d.Kind, d.Name, tellTerm(d.Type), tellTerm(d.Value), d.Family.Params, d.Family.Indices, d.Family.Sort, d.Of)
	for _, c := range d.Family.Cons {
		s += fmt.Sprintf(" %q %s", c.Name, tellTerm(c.Type))
	}
	return s
}

// tellTerm is likewise of a term.
func tellTerm(t *api.Term) string {
	var text strings.Builder
	var add func(t *api.Term)
	add = func(t *api.Term) {
		if t == nil {
			text.WriteString("-")
			return
		}
		text.WriteString("(" + strconv.Itoa(t.Kind) + " " + strconv.Itoa(t.N) + " " + strconv.Quote(t.Name))
		add(t.A)
		add(t.B)
		add(t.C)
		text.WriteString(")")
	}
	add(t)
	return text.String()
}

// tellAll is all declarations, a line each.
func tellAll(l []api.Decl) string {
	var s []string
	for _, d := range l {
		s = append(s, tell(d))
	}
	return strings.Join(s, "\n")
}

// with is the Env with one more; it has to be let in.
func with(t *testing.T, e *env.Env, d api.Decl) *env.Env {
	t.Helper()
	next, err := e.Add(d)
	if err != nil || next == nil {
		t.Fatalf("add %q: %v, %v", d.Name, next, err)
	}
	return next
}

// of is an Env of some declarations.
func of(t *testing.T, l ...api.Decl) *env.Env {
	t.Helper()
	e := env.New()
	for _, d := range l {
		e = with(t, e, d)
	}
	return e
}

// holds holds all that is told of an Env against the row of declarations that it should have.
func holds(t *testing.T, what string, e *env.Env, want []api.Decl, lacks ...string) {
	t.Helper()
	if e.Len() != len(want) {
		t.Errorf("%s: len %d, want %d", what, e.Len(), len(want))
	}
	if got := tellAll(e.List()); got != tellAll(want) {
		t.Errorf("%s:\n%s\nwant\n%s", what, got, tellAll(want))
	}
	for _, d := range want {
		if got, ok := e.Find(d.Name); !ok || tell(got) != tell(d) {
			t.Errorf("%s: find %q: %v, %s", what, d.Name, ok, tell(got))
		}
	}
	for _, name := range lacks {
		if got, ok := e.Find(name); ok || tell(got) != tell(api.Decl{}) {
			t.Errorf("%s: find %q: %v, %s", what, name, ok, tell(got))
		}
	}
}

// refused tells whether a declaration is refused with that number alone, and nothing is changed.
func refused(t *testing.T, e *env.Env, d api.Decl, want api.Errno) {
	t.Helper()
	before := tellAll(e.List())
	next, err := e.Add(d)
	var got api.Errno
	if next != nil || !errors.As(err, &got) || got != want || !errors.Is(err, want) {
		t.Errorf("add %q: %v, %v; want %v", d.Name, next, err, want)
	}
	if err != nil && !strings.HasSuffix(err.Error(), want.Error()) {
		t.Errorf("add %q: told as %q", d.Name, err)
	}
	if tellAll(e.List()) != before {
		t.Errorf("add %q: refused, but changed", d.Name)
	}
}

func TestP11_1None(t *testing.T) {
	for what, e := range map[string]*env.Env{
		"new": env.New(), "one to which nothing was told": new(env.Env), "cut of none": env.New().Cut(0), "cut of none further on": env.New().Cut(7),
		"cut down": of(t, every()...).Cut(0),
	} {
		holds(t, what, e, nil, "", "a", "b", "s.nat", "all", "a.rec", ".", "\x00", long(25))
		holds(t, what+", one more", with(t, e, nat("a")), []api.Decl{nat("a")}, "", "b", "a.o", "a.s", "a.rec")
		holds(t, what+", behind one more", e, nil, "a")
	}
	if env.New() == env.New() {
		t.Error("new: one and the same")
	}
}

// All is found, and listed in the order in which it came, whatever the names are.
func TestP11_1Order(t *testing.T) {
	l := every()
	e := env.New()
	for i, d := range l {
		var later []string
		for _, other := range l[i:] {
			later = append(later, other.Name)
		}
		holds(t, fmt.Sprintf("%d", i), e, l[:i], append(later, "", "s", "nat", "o", "A", "s.nat.s", "s.nat.rec", "b.rec", "b ", "bb")...)
		e = with(t, e, d)
	}
	holds(t, "all", e, l, "", "s", "nat")
	slices.Reverse(l)
	holds(t, "all, the other way round", of(t, l...), l)
}

func TestP11_1Names(t *testing.T) {
	for _, name := range []string{
		"a", "Z", "a0", "a_", "a.b", "a.b_1.C", "rec", "rec.a", "a.rec.b", "recs", "a.recs", "a.Rec", "fun", "pi", "let", "in", "Type", "Type0", "Type9",
		long(24), long(11) + "." + long(12), "a.b.c.d.e.f.g.h.i.j.k.lm",
	} {
		holds(t, name, of(t, axiom(name, sort(0))), []api.Decl{axiom(name, sort(0))}, name+"a", name+".rec", "")
	}
	for _, name := range []string{
		"", ".", "a.", ".a", "a..b", "1", "1a", "_", "_a", "a.1", "a b", " a", "a ", "a@1", "a-b", "é", "a\x00", "\xff", "a\n", long(25), long(12) + "." + long(12), long(2000),
		"a.rec", "a.b.rec", "a.rec.rec", "rec.rec", "fun.rec", long(20) + ".rec", long(21) + ".rec", long(24) + ".rec", ".rec",
	} {
		refused(t, env.New(), axiom(name, sort(0)), api.ErrForm)
		refused(t, of(t, every()...), axiom(name, sort(0)), api.ErrForm)
	}
}

func TestP11_1Types(t *testing.T) {
	round := app(nil, sort(0))
	round.A = round
	twice := sort(0)
	for range 60 {
		twice = app(twice, twice)
	}
	for i, a := range []*api.Term{
		sort(0), sort(9), variable(0), variable(100000), constant("none"), {Kind: api.TConst, Name: "nat.rec", N: 9}, pi(variable(7), variable(9)),
		let(sort(0), sort(1), sort(2)), chain(2999), lam(chain(1499), chain(1499)), pi(sort(0), app(chain(1499), chain(1497))), let(sort(0), sort(0), chain(2997)),
	} {
		holds(t, fmt.Sprint("type ", i), of(t, axiom("a", a)), []api.Decl{axiom("a", a)})
	}
	for _, a := range []*api.Term{
		nil, {}, {Kind: 8}, {Kind: -1}, sort(10), sort(-1), variable(-1), variable(100001), constant(""), constant("fun"), constant("Type0"), constant("a."),
		{Kind: api.TConst, Name: "a", N: 1}, {Kind: api.TConst, Name: "a.rec", N: 10}, {Kind: api.TSort, Name: "a"}, {Kind: api.TVar, A: sort(0)},
		pi(nil, sort(0)), pi(sort(0), nil), lam(sort(0), sort(10)), app(sort(10), sort(0)), let(sort(0), sort(0), nil), {Kind: api.TApp, A: sort(0), B: sort(0), C: sort(0)},
		chain(3001), chain(9001), lam(chain(1501), chain(1499)), twice, round,
	} {
		refused(t, env.New(), axiom("a", a), api.ErrForm)
		refused(t, of(t, every()...), axiom("z", a), api.ErrForm)
	}
}

// A Value and a family's constructors are let in as they are: nothing is asked of them.
func TestP11_1OtherParts(t *testing.T) {
	for i, d := range every() {
		d.Value, d.Of = app(nil, &api.Term{Kind: 55, N: -3, Name: ".", C: sort(10)}), "a.rec"
		d.Family.Cons = append(d.Family.Cons, api.Con{Name: "fun", Type: chain(3001)}, api.Con{Name: "fun"})
		holds(t, fmt.Sprint(i), of(t, d), []api.Decl{d})
	}
}

// Of several errors the one that is named first.
func TestP11_1FirstError(t *testing.T) {
	l := every()
	e := of(t, l...)
	for _, d := range l {
		refused(t, e, axiom(d.Name, nil), api.ErrForm)
		refused(t, e, axiom(d.Name, sort(10)), api.ErrForm)
		refused(t, e, axiom(d.Name, sort(1)), api.ErrName)
		refused(t, e, d, api.ErrName)
		refused(t, e, axiom(d.Name+".rec", sort(0)), api.ErrForm)
		refused(t, e, axiom(d.Name+".", nil), api.ErrForm)
	}
	// A constructor that is only in its family's row has no name of its own yet.
	holds(t, "a constructor", with(t, e, axiom("s.nat.s", sort(1))), append(l, axiom("s.nat.s", sort(1))))
}

func TestP11_1Full(t *testing.T) {
	var l []api.Decl
	e := env.New()
	for i := range api.MaxDecls {
		d := axiom(fmt.Sprint("a", i*77%api.MaxDecls), sort(i%10))
		l = append(l, d)
		e = with(t, e, d)
	}
	holds(t, "full", e, l, "a200", "b")
	refused(t, e, axiom("b", sort(0)), api.ErrFull)
	refused(t, e, full("b"), api.ErrFull)
	refused(t, e, axiom("a7", sort(0)), api.ErrName)
	refused(t, e, axiom("a7", nil), api.ErrForm)
	refused(t, e, axiom("b", sort(10)), api.ErrForm)
	refused(t, e, axiom("b.rec", sort(0)), api.ErrForm)
	refused(t, e.Cut(api.MaxDecls), axiom("b", sort(0)), api.ErrFull)
	less := e.Cut(api.MaxDecls - 1)
	last := l[api.MaxDecls-1]
	holds(t, "one less", less, l[:api.MaxDecls-1], last.Name)
	holds(t, "another last one", with(t, less, axiom("b", sort(0))), append(slices.Clone(l[:api.MaxDecls-1]), axiom("b", sort(0))), last.Name)
	holds(t, "the last one again", with(t, less, last), l)
	holds(t, "behind all", e, l, "b")
	for n := range api.MaxDecls {
		holds(t, fmt.Sprint("the first ", n), e.Cut(n), l[:n], l[n].Name, last.Name)
	}
}

func TestP11_1Cut(t *testing.T) {
	l := every()
	e := of(t, l...)
	for n := -3; n < len(l)+3; n++ {
		want := l[:min(max(n, 0), len(l))]
		var gone []string
		for _, d := range l[len(want):] {
			gone = append(gone, d.Name)
		}
		c := e.Cut(n)
		holds(t, fmt.Sprint("cut ", n), c, want, gone...)
		// What was cut may come again, otherwise.
		for _, d := range l[len(want):] {
			d.Kind, d.Type = 66, sort(6)
			holds(t, fmt.Sprint("cut ", n, " and more"), with(t, c, d), append(slices.Clone(want), d))
		}
		for _, d := range want {
			refused(t, c, d, api.ErrName)
		}
		for m := range 4 {
			holds(t, fmt.Sprint("cut ", n, " and ", m), c.Cut(m), l[:min(m, len(want))], gone...)
		}
	}
	holds(t, "far below", e.Cut(math.MinInt), nil, "a")
	holds(t, "far above", e.Cut(math.MaxInt), l)
	holds(t, "behind all", e, l)
}

// What comes of one Env touches neither it nor what else comes of it.
func TestP11_1NothingChanges(t *testing.T) {
	l := every()
	var row []*env.Env
	e := env.New()
	for _, d := range l {
		row = append(row, e)
		e = with(t, e, d)
	}
	row = append(row, e)
	for i, at := range row {
		first, second := with(t, at, axiom("first", sort(1))), with(t, at, nat("second"))
		third := with(t, at, axiom("first", sort(2)))
		ahead := l[:i:i]
		holds(t, "first", first, append(ahead, axiom("first", sort(1))), "second")
		holds(t, "second", second, append(ahead, nat("second")), "first")
		holds(t, "third", third, append(ahead, axiom("first", sort(2))), "second")
		holds(t, "both", with(t, first, nat("second")), append(ahead, axiom("first", sort(1)), nat("second")))
		if i > 0 {
			holds(t, "cut", with(t, at.Cut(i-1), axiom("first", sort(3))), append(l[:i-1:i-1], axiom("first", sort(3))), l[i-1].Name)
		}
	}
	for i, at := range row {
		holds(t, fmt.Sprint("as it was: ", i), at, l[:i], "first", "second")
	}
}

func TestP11_1Same(t *testing.T) {
	for _, d := range append(every(), api.Decl{}, api.Decl{Type: sort(10)}) {
		if !env.Same(d, d) {
			t.Errorf("%s: not the same", tell(d))
		}
	}
	for i, a := range every() {
		for k, b := range every() {
			if env.Same(a, b) != (i == k) {
				t.Errorf("%s, %s: %v", tell(a), tell(b), i != k)
			}
		}
	}
	for i, change := range []func(d *api.Decl){
		func(d *api.Decl) { d.Kind++ },
		func(d *api.Decl) { d.Name = "" },
		func(d *api.Decl) { d.Name += "a" },
		func(d *api.Decl) { d.Type = nil },
		func(d *api.Decl) { d.Type.N++ },
		func(d *api.Decl) { d.Value = nil },
		func(d *api.Decl) { d.Value.B.C.Name = "w" },
		func(d *api.Decl) { d.Value.B.A = d.Value.B.B },
		func(d *api.Decl) { d.Type, d.Value = d.Value, d.Type },
		func(d *api.Decl) { d.Name, d.Of = d.Of, d.Name },
		func(d *api.Decl) { d.Of = "" },
		func(d *api.Decl) { d.Family.Params-- },
		func(d *api.Decl) { d.Family.Indices-- },
		func(d *api.Decl) { d.Family.Sort-- },
		func(d *api.Decl) { d.Family.Params, d.Family.Indices = 2, 1 },
		func(d *api.Decl) { d.Family = api.Family{} },
		func(d *api.Decl) { d.Family.Cons = nil },
		func(d *api.Decl) { d.Family.Cons = d.Family.Cons[:1] },
		func(d *api.Decl) { d.Family.Cons = d.Family.Cons[1:] },
		func(d *api.Decl) { d.Family.Cons = append(d.Family.Cons, api.Con{}) },
		func(d *api.Decl) { d.Family.Cons = append(d.Family.Cons, d.Family.Cons[1]) },
		func(d *api.Decl) { slices.Reverse(d.Family.Cons) },
		func(d *api.Decl) { d.Family.Cons[0].Name = "f.p" },
		func(d *api.Decl) { d.Family.Cons[1].Name = "" },
		func(d *api.Decl) { d.Family.Cons[0].Type = nil },
		func(d *api.Decl) { d.Family.Cons[1].Type.B = sort(0) },
		func(d *api.Decl) {
			d.Family.Cons[0].Type, d.Family.Cons[1].Type = d.Family.Cons[1].Type, d.Family.Cons[0].Type
		},
	} {
		a, b := full("f"), full("f")
		if !env.Same(a, b) {
			t.Fatal("not the same")
		}
		if change(&b); env.Same(a, b) || env.Same(b, a) || !env.Same(b, b) {
			t.Errorf("row %d: %s is held to be the same", i, tell(b))
		}
	}
}

// Names aren't asked for being names, nor terms for being terms; no list is an empty one.
func TestP11_1SameOfWhatIsNot(t *testing.T) {
	a, b := every()[8], every()[8]
	a.Type, b.Type = app(nil, sort(10)), app(nil, sort(10))
	if !env.Same(a, b) {
		t.Error("of what is no term: not the same")
	}
	if b.Type.B.N = 11; env.Same(a, b) {
		t.Error("of what is no term: the same")
	}
	none, empty, roomy := full("f"), full("f"), full("f")
	none.Family.Cons, empty.Family.Cons, roomy.Family.Cons = nil, []api.Con{}, roomy.Family.Cons[:0]
	if !env.Same(none, empty) || !env.Same(empty, roomy) || !env.Same(roomy, none) {
		t.Error("no list and an empty one: not the same")
	}
	for _, d := range []api.Decl{none, empty, roomy} {
		got, ok := of(t, d).Find("f")
		if !ok || !env.Same(got, none) || len(got.Family.Cons) != 0 {
			t.Error("no list and an empty one: not found the same")
		}
		for _, room := range got.Family.Cons[:cap(got.Family.Cons)] {
			if room != (api.Con{}) {
				t.Error("what is behind an empty list is answered")
			}
		}
	}
}

// What was let in is what is told of it later, for all parts and all kinds.
func TestP11_2WhatWasLetIn(t *testing.T) {
	for _, d := range every() {
		got, ok := of(t, d).Find(d.Name)
		if !ok || !env.Same(got, d) || tell(got) != tell(d) {
			t.Errorf("%s, told as %s", tell(d), tell(got))
		}
		again, ok := of(t, got).Find(d.Name)
		if !ok || !env.Same(again, d) {
			t.Errorf("%s, again: %s", tell(d), tell(again))
		}
	}
}

// One Env may be asked, and others be made of it, by several at once.
func TestP11_2AskedAtOnce(t *testing.T) {
	l := every()
	e := of(t, l...)
	want := tellAll(l)
	var all sync.WaitGroup
	for i := range 8 {
		all.Go(func() {
			for k := range 40 {
				d := axiom(fmt.Sprint("n", i), sort(k%10))
				next, err := e.Cut(k % 12).Add(d)
				if err != nil || tellAll(next.List()) != tellAll(append(slices.Clone(l[:min(k%12, len(l))]), d)) {
					t.Errorf("worker %d: %v", i, err)
				}
				if got, ok := e.Find("all"); !ok || tell(got) != tell(l[4]) || tellAll(e.List()) != want {
					t.Errorf("worker %d: told otherwise", i)
				}
			}
		})
	}
	all.Wait()
}

func Example() {
	e, _ := env.New().Add(axiom("nat", sort(0)))
	more, _ := e.Add(axiom("n", constant("nat")))
	d, ok := more.Find("n")
	fmt.Println(d.Name, d.Type.Name, ok, e.Len(), more.Len())
	_, ok = more.Cut(1).Find("n")
	fmt.Println(ok, env.Same(e.List()[0], more.List()[0]))
	_, err := more.Add(axiom("n", sort(0)))
	fmt.Println(err, errors.Is(err, api.ErrName))
	_, err = more.Add(axiom("nat.rec", sort(0)))
	fmt.Println(errors.Is(err, api.ErrForm))
	// Output:
	// n nat true 1 2
	// false true
	// env: "n": is there already: error 15 true
	// true
}
