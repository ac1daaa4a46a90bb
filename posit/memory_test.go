package posit_test

import (
	"slices"
	"sync"
	"testing"

	"vademecum/api"
	"vademecum/posit"
	"vademecum/term"
)

// handed: what a test hands in: nodes are shared, and the list has spare room.
type handed struct {
	a     *api.Term
	cons  []api.Con
	plain *api.Term
}

// handIn makes what is handed in: a family of one parameter, one index, three constructors that share nodes, two of them all.
func handIn() handed {
	shared := app(constant("g"), pi(constant("a"), variable(0)))
	end := apply(constant("f"), variable(2), shared)
	whole := pi(shared, pi(apply(constant("f"), variable(0), shared), pi(shared, end)))
	h := handed{a: pi(shared, pi(shared, sort(3)))}
	h.plain = pi(shared, pi(app(shared, shared), apply(constant("f"), variable(2), shared, shared)))
	h.cons = append(make([]api.Con, 0, 6), api.Con{Name: "c", Type: whole}, api.Con{Name: "d", Type: pi(shared, whole.B)}, api.Con{Name: "e", Type: whole})
	h.cons[:5][3] = api.Con{Name: "spare", Type: shared}
	return h
}

// nodesOf are all nodes of some terms, with what they have.
func nodesOf(l ...*api.Term) map[*api.Term]api.Term {
	all := map[*api.Term]api.Term{}
	var add func(t *api.Term)
	add = func(t *api.Term) {
		if t == nil {
			return
		}
		if _, ok := all[t]; !ok {
			all[t] = *t
			add(t.A)
			add(t.B)
			add(t.C)
		}
	}
	for _, t := range l {
		add(t)
	}
	return all
}

// typesOf are the types of constructors, with those in the room behind them.
func typesOf(cons []api.Con) []*api.Term {
	var l []*api.Term
	for _, c := range cons[:cap(cons)] {
		l = append(l, c.Type)
	}
	return l
}

// nodes are all nodes that are handed in.
func (h handed) nodes() map[*api.Term]api.Term {
	return nodesOf(append(typesOf(h.cons), h.a, h.plain)...)
}

// text is all that is handed in, the spare room too.
func (h handed) text() string { return dump(h.a) + dumpCons(h.cons[:cap(h.cons)]) + dump(h.plain) }

func spoil(nodes map[*api.Term]api.Term) {
	for node := range nodes {
		*node = api.Term{Kind: api.TConst, Name: "spoilt"}
	}
}

// shapeOf is what Shape tells of what is handed in.
func shapeOf(t *testing.T, h handed) api.Family {
	t.Helper()
	f, err := posit.Shape("f", 1, h.a, h.cons)
	if err != nil {
		t.Fatal(err)
	}
	return f
}

// An answer is new, all of it, and no two constructors share any of it.
func TestP17_1AnswersAreNew(t *testing.T) {
	h := handIn()
	before, in := h.text(), h.nodes()
	first, second := shapeOf(t, h), shapeOf(t, h)
	want := dumpFamily(first)
	size := 0
	for _, c := range first.Cons {
		size += term.Size(c.Type)
	}
	nodes := nodesOf(typesOf(first.Cons)...)
	if len(first.Cons) != 3 || len(nodes) != size || dumpFamily(second) != want {
		t.Errorf("%d nodes of %d: %s, %s", len(nodes), size, want, dumpFamily(second))
	}
	for node := range nodes {
		if _, ok := in[node]; ok {
			t.Fatal("a node that was handed in is answered")
		}
	}
	spoil(nodes)
	clear(append(first.Cons, api.Con{Name: "more"}))
	clear(first.Cons[:cap(first.Cons)])
	if dumpFamily(second) != want || dumpFamily(shapeOf(t, h)) != want || h.text() != before {
		t.Error("spoilt by what is done with an answer")
	}
}

// What is handed in stays as it is, with the spare room behind the list, whatever comes of it.
func TestP17_1HandedInStays(t *testing.T) {
	h := handIn()
	before, nodes, room := h.text(), h.nodes(), slices.Clone(h.cons[:cap(h.cons)])
	for _, name := range []string{"f", "g", "a", "c", "f.rec", "other"} {
		for params := -1; params < 4; params++ {
			posit.Shape(name, params, h.a, h.cons)
			posit.Shape(name, params, h.plain, h.cons)
			posit.Shape(name, params, h.a, h.cons[:1])
			posit.Plain(name, params, 1, h.plain)
		}
	}
	if h.text() != before || !slices.Equal(room, h.cons[:cap(h.cons)]) {
		t.Error("changed")
	}
	for node, was := range nodes {
		if *node != was {
			t.Fatal("a node is changed")
		}
	}
}

// What was handed in isn't kept, and what was told isn't remembered.
func TestP17_1NothingIsKept(t *testing.T) {
	h := handIn()
	f := shapeOf(t, h)
	want := dumpFamily(f)
	for _, c := range []struct {
		name string
		want bool
	}{{"g", true}, {"f", false}, {"g", true}} {
		h.plain.A.A.Name = c.name
		if got := posit.Plain("f", 1, 1, h.plain); got != c.want {
			t.Errorf("%s: %v", c.name, got)
		}
		if _, err := posit.Shape("f", 1, h.a, h.cons); (err == nil) != c.want {
			t.Errorf("%s: %v", c.name, err)
		}
	}
	spoil(h.nodes())
	clear(h.cons[:cap(h.cons)])
	if dumpFamily(f) != want {
		t.Error("kept")
	}
}

// No constructors and none handed in are one.
func TestP17_1None(t *testing.T) {
	for _, l := range [][]api.Con{nil, {}, make([]api.Con, 0, 5)} {
		f, err := posit.Shape("f", 0, sort(4), l)
		if err != nil || len(f.Cons) != 0 || f.Sort != 4 {
			t.Errorf("%v, %v", f, err)
		}
	}
}

func TestP17_1AskedAtOnce(t *testing.T) {
	h := handIn()
	want := dumpFamily(shapeOf(t, h))
	var all sync.WaitGroup
	for range 8 {
		all.Go(func() {
			for range 100 {
				f, err := posit.Shape("f", 1, h.a, h.cons)
				_, other := posit.Shape("f", 2, h.a, h.cons)
				if err != nil || dumpFamily(f) != want || other == nil || !posit.Plain("f", 1, 1, h.plain) || posit.Plain("f", 1, 2, h.plain) {
					t.Errorf("otherwise: %s, %v, %v", dumpFamily(f), err, other)
				}
			}
		})
	}
	all.Wait()
}
