package admit_test

import (
	"slices"
	"sync"
	"testing"

	"vademecum/api"
	"vademecum/env"
)

// sharing are calls whose terms share nodes, with one another too, and whose lists have spare room.
func sharing() []call {
	nat, x := constant("nat"), constant("x")
	claim := app(constant("p"), app(constant("s"), constant("o")))
	proof := app(constant("d"), app(constant("s"), constant("o")))
	shared := pi(nat, pi(claim, claim))
	con := pi(nat, pi(claim, pi(pi(claim, x), x)))
	cons := append(make([]api.Con, 0, 6), api.Con{Name: "b", Type: con}, api.Con{Name: "c", Type: con}, api.Con{Name: "e", Type: con.B})
	cons[:5][3] = api.Con{Name: "spare", Type: con}
	param := pi(sort(0), app(x, variable(0)))
	return []call{
		{kind: api.DAxiom, name: "x", a: shared},
		{kind: api.DAxiom, name: "x", a: pi(shared, shared)},
		{kind: api.DDef, name: "x", a: claim, b: proof},
		{kind: api.DDef, name: "x", a: pi(claim, claim), b: lam(claim, proof)},
		{kind: api.DDef, name: "x", a: sort(0), b: shared},
		{kind: api.DFamily, name: "x", a: sort(0), cons: cons},
		{kind: api.DFamily, name: "x", a: sort(0), cons: cons[:1]},
		{kind: api.DFamily, name: "x", params: 1, a: pi(sort(0), sort(0)), cons: []api.Con{{Name: "c", Type: param}, {Name: "e", Type: param}}},
		// These aren't let in.
		{kind: api.DAxiom, name: "y", a: shared},
		{kind: api.DAxiom, name: "x", a: app(claim, claim)},
		{kind: api.DDef, name: "x", a: shared, b: proof},
		{kind: api.DFamily, name: "x", a: pi(claim, sort(0)), cons: cons},
		{kind: api.DFamily, name: "x", a: pi(proof, sort(0))},
		{kind: api.DFamily, name: "p", a: sort(0), cons: cons},
	}
}

// nodesOf are all nodes of some terms, with what they have.
func nodesOf(l ...*api.Term) map[*api.Term]api.Term {
	all := map[*api.Term]api.Term{}
	var add func(t *api.Term)
	add = func(t *api.Term) {
		if t == nil {
			return
		}
		if _, ok := all[t]; !ok {
			all[t] = *t
			add(t.A)
			add(t.B)
			add(t.C)
		}
	}
	for _, t := range l {
		add(t)
	}
	return all
}

func spoil(nodes map[*api.Term]api.Term) {
	for node := range nodes {
		*node = api.Term{Kind: api.TConst, Name: "spoilt"}
	}
}

// nodes are all nodes that are handed in, those in the room behind the list too.
func (c call) nodes() map[*api.Term]api.Term {
	l := []*api.Term{c.a, c.b}
	for _, con := range c.cons[:cap(c.cons)] {
		l = append(l, con.Type)
	}
	return nodesOf(l...)
}

// What is handed in stays as it is, with the spare room behind the list, whatever comes of it.
func TestP18_3HandedInStays(t *testing.T) {
	e := known(t)
	for _, c := range sharing() {
		nodes, room := c.nodes(), slices.Clone(c.cons[:cap(c.cons)])
		for fuel := range 60 {
			c.on(e, fuel)
		}
		if !slices.Equal(c.cons[:cap(c.cons)], room) {
			t.Errorf("%v: the list is changed", c)
		}
		for node, was := range nodes {
			if *node != was {
				t.Fatalf("%v: a node is changed", c)
			}
		}
	}
}

// What is handed in isn't kept: it may be changed behind the call.
func TestP18_3NothingIsKept(t *testing.T) {
	e := known(t)
	let := 0
	for i := range sharing() {
		c := sharing()[i]
		next, err := c.on(e, 300)
		if (err == nil) != (i < 8) {
			t.Errorf("%v: %v", c, err)
		}
		if err != nil {
			continue
		}
		let++
		want := dumpDecls(next.List())
		for node := range c.nodes() {
			for _, d := range next.List() {
				if _, ok := nodesOf(d.Type, d.Value)[node]; ok {
					t.Fatalf("%v: a node that was handed in is answered", c)
				}
			}
		}
		spoil(c.nodes())
		clear(c.cons[:cap(c.cons)])
		if dumpDecls(next.List()) != want {
			t.Errorf("%d: kept", i)
		}
	}
	if let != 8 {
		t.Errorf("%d are let in", let)
	}
}

// What was told isn't remembered, of what is let in nor of what isn't.
func TestP18_3NothingIsRemembered(t *testing.T) {
	e := known(t)
	c := axiom(t, "x", "p one")
	for _, row := range []struct {
		name string
		want api.Errno
	}{{"one", api.OK}, {"nat", api.ErrType}, {"y", api.OK}, {"nowhere", api.ErrName}, {"one", api.OK}} {
		c.a.B.Name = row.name
		next, err := c.on(e, 50)
		if numberOf(err) != row.want || (next == nil) != (row.want != api.OK) {
			t.Errorf("%s: %v", row.name, err)
		}
		if next != nil && dumpDecls(next.List()[e.Len():]) != dumpDecls(c.decls()) {
			t.Errorf("%s: %s", row.name, dumpDecls(next.List()[e.Len():]))
		}
	}
	// Fuel isn't either.
	for _, fuel := range []int{4, 3, 4, 0, api.MaxFuel, 3, 5} {
		if _, err := c.on(e, fuel); (err == nil) != (fuel >= 4) {
			t.Errorf("%d: %v", fuel, err)
		}
	}
}

// Envs that come from one another don't touch one another, and neither does what is done with what they answer.
func TestP18_3EnvsStay(t *testing.T) {
	e := known(t)
	before := dumpDecls(e.List())
	left := allowed(t, "left", e, family(t, "x", 1, "Type0 -> Type0", "c", "pi A : Type0, A -> x A"), 300)
	right := allowed(t, "right", e, axiom(t, "x", "nat"), 300)
	wantLeft, wantRight := dumpDecls(left.List()), dumpDecls(right.List())
	allowed(t, "further", left, axiom(t, "more", "x nat"), 300)
	allowed(t, "further", right, axiom(t, "more", "p x"), 300)
	refused(t, "further", right, axiom(t, "more", "x nat"), 300, api.ErrFun)
	for _, e := range []*env.Env{left, right} {
		l := e.List()
		for i, d := range l {
			spoil(nodesOf(d.Type, d.Value))
			for k := range d.Family.Cons {
				spoil(nodesOf(d.Family.Cons[k].Type))
				d.Family.Cons[k] = api.Con{}
			}
			l[i] = api.Decl{}
		}
		if d, ok := e.Find("x"); ok {
			spoil(nodesOf(d.Type))
		}
	}
	if dumpDecls(e.List()) != before || dumpDecls(left.List()) != wantLeft || dumpDecls(right.List()) != wantRight {
		t.Error("changed")
	}
}

// No constructors and none handed in are one.
func TestP18_2None(t *testing.T) {
	e := known(t)
	for _, l := range [][]api.Con{nil, {}, make([]api.Con, 0, 5)} {
		allowed(t, "none", e, call{kind: api.DFamily, name: "x", a: sort(4), cons: l}, 1)
	}
}

func TestP18_3AskedAtOnce(t *testing.T) {
	e := known(t)
	l := sharing()
	tell := func(c call) string {
		next, err := c.on(e, 300)
		if err != nil {
			return err.Error()
		}
		return dumpDecls(next.List())
	}
	var want []string
	for _, c := range l {
		want = append(want, tell(c))
	}
	var all sync.WaitGroup
	for range 8 {
		all.Go(func() {
			for range 10 {
				for i, c := range l {
					if got := tell(c); got != want[i] {
						t.Errorf("%v: otherwise", c)
					}
				}
			}
		})
	}
	all.Wait()
}
