package env_test

import (
	"fmt"
	"strings"
	"testing"

	"vademecum/api"
	"vademecum/env"
	"vademecum/term"
)

// terms are the terms of a declaration.
func terms(d api.Decl) []*api.Term {
	l := []*api.Term{d.Type, d.Value}
	for _, c := range d.Family.Cons {
		l = append(l, c.Type)
	}
	return l
}

// known is all nodes of some declarations.
func known(l ...api.Decl) map[*api.Term]bool {
	all := map[*api.Term]bool{}
	var add func(t *api.Term)
	add = func(t *api.Term) {
		if t != nil && !all[t] {
			all[t] = true
			add(t.A)
			add(t.B)
			add(t.C)
		}
	}
	for _, d := range l {
		for _, t := range terms(d) {
			add(t)
		}
	}
	return all
}

// spoil changes all that hangs on declarations, the spare room of their lists too, and the list that they stand in.
func spoil(l []api.Decl) {
	for node := range known(l...) {
		*node = api.Term{Kind: 44, N: -9, Name: "spoilt", C: &api.Term{}}
	}
	for _, d := range l {
		cons := d.Family.Cons[:cap(d.Family.Cons)]
		for i := range cons {
			cons[i] = api.Con{Name: "spoilt", Type: variable(-1)}
		}
	}
	l = l[:cap(l)]
	for i := range l {
		l[i] = api.Decl{Kind: 44, Name: "spoilt"}
	}
}

// spoilParts is a row of declarations that hang on one another: terms shared within one and between two, constructors of one row with room behind it.
func spoilParts() []api.Decl {
	a := pi(sort(0), app(variable(0), constant("a")))
	cons := []api.Con{{Name: "c", Type: a}, {Name: "d", Type: app(a, a)}, {Name: "room", Type: a}, {Name: "more", Type: nil}}
	return []api.Decl{
		{Kind: api.DDef, Name: "x", Type: a, Value: a},
		{Kind: api.DFamily, Name: "y", Type: app(a, a), Value: a.B, Family: api.Family{Cons: cons[:2]}},
		{Kind: api.DFamily, Name: "z", Type: a.A, Family: api.Family{Cons: cons[1:3]}},
		{Kind: api.DFamily, Name: "none", Type: a, Family: api.Family{Cons: cons[:0]}},
	}
}

// What was handed in is neither changed nor kept: it may be changed as soon as there is an answer.
func TestP11_2NotKept(t *testing.T) {
	l := spoilParts()
	e := of(t, l...)
	want := tellAll(spoilParts())
	if tellAll(l) != want {
		t.Error("changed")
	}
	if room := l[1].Family.Cons[:4]; room[2].Name != "room" || room[3].Name != "more" {
		t.Error("the room behind is changed")
	}
	spoil(l)
	holds(t, "behind", e, spoilParts())
	holds(t, "cut", e.Cut(2), spoilParts()[:2])
}

// An answer is touched by nothing that is done with another one, or with the Env.
func TestP11_2AnswersAreNew(t *testing.T) {
	e := of(t, spoilParts()...)
	want := spoilParts()
	calls := []func() []api.Decl{e.List, e.Cut(9).List, with(t, e, full("more")).Cut(4).List}
	for i, d := range want {
		calls = append(calls, func() []api.Decl {
			got, _ := e.Find(d.Name)
			return []api.Decl{got}
		}, e.Cut(i+1).List)
	}
	seen := map[*api.Term]bool{}
	var stay []func()
	for i, call := range calls {
		kept := call()
		text := tellAll(kept)
		stay = append(stay, func() {
			if tellAll(kept) != text {
				t.Errorf("call %d: an earlier answer is touched", i)
			}
		})
		got := call()
		nodes := 0
		for _, d := range got {
			for _, x := range terms(d) {
				nodes += term.Size(x)
			}
		}
		if len(known(got...)) != nodes {
			t.Errorf("call %d: %d nodes of %d, some are shared", i, len(known(got...)), nodes)
		}
		for node := range known(append(got, kept...)...) {
			if seen[node] {
				t.Fatalf("call %d: a node was answered already", i)
			}
			seen[node] = true
		}
		spoil(got)
		holds(t, fmt.Sprintf("behind call %d", i), e, want)
		if tellAll(call()) != text {
			t.Errorf("call %d: otherwise", i)
		}
	}
	for _, same := range stay {
		same()
	}
}

// No list of an answer lies on another one, its spare room included.
func TestP11_2ListsApart(t *testing.T) {
	e := of(t, nat("a"), nat("b"), nat("c"))
	l := e.List()
	for i := range l {
		l[i].Family.Cons = append(l[i].Family.Cons, api.Con{Name: fmt.Sprint("more", i)})
		for k, room := 0, l[i].Family.Cons; k < cap(room)-len(room); k++ {
			room[:cap(room)][len(room)+k].Name = "spoilt"
		}
	}
	for i, name := range []string{"a", "b", "c"} {
		d := nat(name)
		d.Family.Cons = append(d.Family.Cons, api.Con{Name: fmt.Sprint("more", i)})
		if tell(l[i]) != tell(d) {
			t.Errorf("%s, want %s", tell(l[i]), tell(d))
		}
	}
	holds(t, "behind", e, []api.Decl{nat("a"), nat("b"), nat("c")})
}

// shared is a term with so many nodes one above the other, each of which has the one below it as all its parts.
func shared(deep int, last *api.Term) *api.Term {
	t := last
	for range deep {
		t = let(t, t, t)
	}
	return t
}

// isTold tells whether a declaration is found as it was let in, in new nodes, however often it goes in and out.
func isTold(t *testing.T, what string, d api.Decl) {
	t.Helper()
	before := known(d)
	x := d
	for range 3 {
		got, ok := of(t, x).Find(d.Name)
		if !ok || !env.Same(got, d) || !env.Same(d, got) || !env.Same(got, got) {
			t.Fatalf("%s: not the same", what)
		}
		for node := range known(got) {
			if before[node] {
				t.Fatalf("%s: a node that was handed in is answered", what)
			}
		}
		if l := of(t, x, axiom("another", sort(0))).List(); len(l) != 2 || !env.Same(l[0], d) {
			t.Fatalf("%s: not listed the same", what)
		}
		x = got
	}
}

// Values and constructors' types may be what could never be unfolded: nothing was asked of them.
func TestP11_2WithoutEnd(t *testing.T) {
	round := app(nil, sort(0))
	round.A = lam(round, round)
	for what, x := range map[string]*api.Term{"round": round, "3 deep": shared(3, sort(0)), "60 deep": shared(60, constant("a")), "5000 deep": shared(5000, nil)} {
		isTold(t, what+", as a value", api.Decl{Name: "a", Type: sort(0), Value: x})
		isTold(t, what+", as all", api.Decl{Name: "a", Type: sort(0), Value: x, Family: api.Family{Cons: []api.Con{{Type: x}, {Type: app(x, x)}, {}, {Type: x}}}})
	}
	if env.Same(api.Decl{Value: shared(60, constant("a"))}, api.Decl{Value: shared(60, constant("b"))}) || env.Same(api.Decl{Value: round}, api.Decl{Value: round.A}) {
		t.Error("held to be the same")
	}
}

// Declarations as large as they may be, and larger.
func TestP11_2Large(t *testing.T) {
	for _, nodes := range []int{2999, 3001, 29999, 200001} {
		d := api.Decl{Kind: api.DFamily, Name: "a", Type: chain(2999), Value: chain(nodes), Family: api.Family{Cons: make([]api.Con, api.MaxCons)}}
		for i := range d.Family.Cons {
			d.Family.Cons[i] = api.Con{Name: fmt.Sprint("c", i), Type: chain(2999)}
		}
		isTold(t, fmt.Sprint(nodes, " nodes"), d)
	}
	right := sort(0)
	for range 1 << 16 {
		right = pi(constant("a"), right)
	}
	isTold(t, "deep", api.Decl{Name: "a", Type: sort(0), Value: right, Of: strings.Repeat("long", 1<<16)})
	one := chain(2999)
	many := api.Decl{Name: "a", Type: one, Family: api.Family{Cons: make([]api.Con, 1000)}}
	for i := range many.Family.Cons {
		many.Family.Cons[i].Type = one
	}
	isTold(t, "many", many)
	if got, _ := of(t, many).Find("a"); len(known(got)) > 100000 {
		t.Errorf("many: %d nodes", len(known(got)))
	}
}

// A declaration as large as one may be is answered with no node shared.
func TestP11_2NodesAtTheLimit(t *testing.T) {
	one := chain(2999)
	d := api.Decl{Name: "a", Type: one, Value: one, Family: api.Family{Cons: make([]api.Con, api.MaxCons)}}
	for i := range d.Family.Cons {
		d.Family.Cons[i].Type = one
	}
	got, _ := of(t, d).Find("a")
	if n := len(known(got)); n != 2999*(2+api.MaxCons) {
		t.Errorf("%d nodes", n)
	}
}
