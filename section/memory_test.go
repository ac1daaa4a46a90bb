package section_test

import (
	"slices"
	"sync"
	"testing"

	"vademecum/api"
	"vademecum/env"
	"vademecum/section"
)

// known is all nodes of some terms.
func known(l ...*api.Term) map[*api.Term]bool {
	all := map[*api.Term]bool{}
	for len(l) > 0 {
		t := l[len(l)-1]
		l = l[:len(l)-1]
		if t != nil && !all[t] {
			all[t] = true
			l = append(l, t.A, t.B, t.C)
		}
	}
	return all
}

// nodesOf is all nodes of declarations.
func nodesOf(l []api.Decl) map[*api.Term]bool {
	var terms []*api.Term
	for _, d := range l {
		terms = append(terms, d.Type, d.Value)
		for _, c := range d.Family.Cons {
			terms = append(terms, c.Type)
		}
	}
	return known(terms...)
}

// spoil changes declarations, and all that hangs on them.
func spoil(l []api.Decl) {
	for node := range nodesOf(l) {
		*node = api.Term{Kind: 44, N: -9, Name: "spoilt", C: &api.Term{}}
	}
	for i := range l {
		clear(l[i].Family.Cons[:cap(l[i].Family.Cons)])
		l[i] = api.Decl{Name: "spoilt"}
	}
}

// some are declarations and variables that share nodes; the variables are part of a list, with room behind it, where something stands that mustn't be touched.
func some(t *testing.T) (*env.Env, []api.Decl) {
	l := append(ground(), decls("v : Type0 -> Type0 := fun k : A => d", "w : A := v x", "fam g0 : A | h0 : w")...)
	A := constant("A")
	both := pi(A, A)
	l = append(l, api.Decl{Kind: api.DDef, Name: "shares", Type: pi(both, both), Value: app(both, both, constant("d"), constant("d"))})
	vars := append(make([]api.Decl, 0, 12), named(l, "A", "x", "f", "B", "z", "y", "u", "r")...)
	vars[2].Type = both
	vars[3].Type = app(both, constant("d"))
	return of(t, l...), vars[:6]
}

// What is handed in is neither changed nor kept, the room behind a list included.
func TestP20_1HandedInStays(t *testing.T) {
	e, vars := some(t)
	before, row := tellAll(e.List()), tellAll(vars[:cap(vars)])
	nodes := map[*api.Term]api.Term{}
	for node := range nodesOf(vars[:cap(vars)]) {
		nodes[node] = *node
	}
	terms := append(make([]*api.Term, 0, 6), parsed("z"), nil, parsed("y y"), parsed("t.rec@1"), parsed("u"))[:4]
	for range 2 {
		section.Uses(e, terms[0])
		section.Needs(e, vars, terms...)
		for from := range e.Len() {
			section.Close(e, from, vars)
		}
	}
	if tellAll(e.List()) != before || tellAll(vars[:cap(vars)]) != row {
		t.Error("something is changed")
	}
	for node, was := range nodes {
		if *node != was {
			t.Error("a node is changed")
		}
	}
	if tell(terms[0]) != "z" || terms[1] != nil || tell(terms[2]) != "y y" || tell(terms[:5][4]) != "u" || terms[:6][5] != nil {
		t.Error("a term is changed")
	}
}

// What is answered is new: neither what was handed in nor another answer is touched by it.
func TestP20_2AnswersAreNew(t *testing.T) {
	e, vars := some(t)
	before := tellAll(e.List())
	var kept []*env.Env
	var texts []string
	for from := range e.Len() + 1 {
		_, other := some(t)
		got, err := section.Close(e, from, other)
		if err != nil {
			t.Fatal(err)
		}
		text := tellAll(got.List())
		l := got.List()
		if nodes, again := nodesOf(l), nodesOf(got.List()); len(nodes) != len(again) {
			t.Error("nodes are shared")
		}
		for _, d := range l {
			if size := len(known(d.Type)) + len(known(d.Value)); size != len(nodesOf([]api.Decl{d})) && len(d.Family.Cons) == 0 {
				t.Errorf("%s: nodes are shared", d.Name)
			}
		}
		for node := range nodesOf(other) {
			if nodesOf(l)[node] {
				t.Fatal("a node that was handed in")
			}
		}
		// What is done with it afterwards touches nothing.
		spoil(l)
		spoil(other[:cap(other)])
		if tellAll(got.List()) != text {
			t.Fatal("the answer is touched")
		}
		kept, texts = append(kept, got), append(texts, text)
	}
	for i, got := range kept {
		again, err := section.Close(e, i, vars)
		if err != nil || tellAll(got.List()) != texts[i] || tellAll(again.List()) != texts[i] {
			t.Errorf("from %d: otherwise the next time", i)
		}
	}
	if tellAll(e.List()) != before {
		t.Error("the Env is touched")
	}
}

// The lists of names that are answered may be written to.
func TestP20_1ListsAreNew(t *testing.T) {
	e, vars := some(t)
	x := parsed("z y")
	u, n := section.Uses(e, x), section.Needs(e, vars, x)
	wantU, wantN := slices.Clone(u), slices.Clone(n)
	for range 3 {
		moreU, moreN := section.Uses(e, x), section.Needs(e, vars, x)
		if !slices.Equal(moreU, wantU) || !slices.Equal(moreN, wantN) || !slices.Equal(u, wantU) || !slices.Equal(n, wantN) {
			t.Fatal("otherwise the next time")
		}
		for _, l := range [][]string{moreU, moreN} {
			l = l[:cap(l)]
			for i := range l {
				l[i] = "spoilt"
			}
		}
	}
}

// Many goroutines may ask at once: nothing that they share is changed.
func TestP20_2AtOnce(t *testing.T) {
	e, vars := some(t)
	x := parsed("z y")
	closed, _ := section.Close(e, 0, vars)
	u, n, text := section.Uses(e, x), section.Needs(e, vars, x), tellAll(closed.List())
	var group sync.WaitGroup
	for range 8 {
		group.Go(func() {
			for range 20 {
				got, err := section.Close(e, 0, vars)
				if err != nil || tellAll(got.List()) != text || !slices.Equal(section.Uses(e, x), u) || !slices.Equal(section.Needs(e, vars, x), n) {
					t.Errorf("otherwise: %v", err)
				}
			}
		})
	}
	group.Wait()
}
