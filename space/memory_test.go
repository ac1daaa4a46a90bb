package space_test

import (
	"slices"
	"sync"
	"testing"

	"vademecum/api"
	"vademecum/env"
	"vademecum/space"
	"vademecum/term"
)

// known is all nodes of some terms.
func known(l ...*api.Term) map[*api.Term]bool {
	all := map[*api.Term]bool{}
	for len(l) > 0 {
		t := l[len(l)-1]
		l = l[:len(l)-1]
		if t != nil && !all[t] {
			all[t] = true
			l = append(l, t.A, t.B, t.C)
		}
	}
	return all
}

// spoil changes all that hangs on terms.
func spoil(l ...*api.Term) {
	for node := range known(l...) {
		*node = api.Term{Kind: 44, N: -9, Name: "spoilt", C: &api.Term{}}
	}
}

// names are the names of all declarations of an Env, with their kinds.
func names(e *env.Env) []string {
	var l []string
	for _, d := range e.List() {
		l = append(l, string(rune('0'+d.Kind))+d.Name+tell(d.Type))
	}
	return l
}

// sharing are terms whose nodes are shared, by what is let in and what isn't.
func sharing() []*api.Term {
	a := app(constant("a"), eliminator("f.rec", 3))
	b := pi(a, let(a, a, lam(a, a)))
	return []*api.Term{a.A, a, app(a, a), pi(sort(1), a), b, app(b, app(a, b)), app(b, constant("zz")), let(b, constant("zz"), b), sort(3), variable(2), app(constant("o"), sort(0))}
}

// opened is what is open, a part of a list with room behind it, where things stand that mustn't be touched.
func opened() []api.Open {
	l := append(make([]api.Open, 0, 8), open("x", "!a", "y", "!b", "u", "spare", "!spare")...)
	return l[:5]
}

// What is handed in is neither changed nor kept, the room behind a list included.
func TestP19_2HandedInStays(t *testing.T) {
	e, l := ground(t), opened()
	before := names(e)
	same := func(a, b api.Open) bool {
		return a.Section == b.Section && a.Name == b.Name && a.From == b.From && slices.EqualFunc(a.Vars, b.Vars, env.Same)
	}
	for _, x := range sharing() {
		nodes := map[*api.Term]api.Term{}
		for node := range known(x) {
			nodes[node] = *node
		}
		space.Term(e, l, x)
		space.Find(e, l, "a")
		space.Find(e, l, "zz")
		space.Full(l, "a")
		for node, was := range nodes {
			if *node != was {
				t.Fatalf("%s: a node is changed", tell(x))
			}
		}
	}
	if !slices.EqualFunc(l[:cap(l)], opened()[:cap(opened())], same) {
		t.Errorf("the list is changed: %v", l[:cap(l)])
	}
	if !slices.Equal(names(e), before) {
		t.Error("the Env is changed")
	}
}

// What is answered is new, no node of it twice: neither an argument nor another answer is touched by it.
func TestP19_2AnswersAreNew(t *testing.T) {
	e, l := ground(t), opened()
	before := names(e)
	seen := map[*api.Term]bool{}
	var kept []*api.Term
	var texts []string
	for i := range sharing() {
		for range 3 {
			x := sharing()[i]
			got, err := space.Term(e, l, x)
			if err != nil {
				continue
			}
			if nodes := known(got); len(nodes) != term.Size(x) {
				t.Errorf("%s: %d nodes", tell(x), len(nodes))
			}
			for node := range known(got, x) {
				if seen[node] {
					t.Fatalf("%s: a node that was there", tell(x))
				}
				seen[node] = true
			}
			for node := range known(got) {
				if known(x)[node] {
					t.Fatalf("%s: a node that was handed in", tell(x))
				}
			}
			kept, texts = append(kept, got), append(texts, tell(got))
			spoil(x)
			again, _ := space.Term(e, l, sharing()[i])
			if tell(again) != texts[len(texts)-1] {
				t.Errorf("%s: otherwise the next time", texts[len(texts)-1])
			}
			spoil(again)
		}
	}
	for i, x := range kept {
		if tell(x) != texts[i] {
			t.Errorf("an earlier answer is touched: %s, want %s", tell(x), texts[i])
		}
	}
	if len(kept) < 20 || !slices.Equal(names(e), before) {
		t.Errorf("%d answers; the Env: %v", len(kept), names(e))
	}
}

// Full keeps what it was told out of the list, and what it answers stays.
func TestP19_2FullStays(t *testing.T) {
	l := opened()
	a, b := space.Full(l, "a"), space.Full(l[:3], "b")
	for i := range l {
		l[i].Name = "spoilt"
	}
	if c := space.Full(opened(), "c"); a != "x.y.u.a" || b != "x.y.b" || c != "x.y.u.c" {
		t.Errorf("%q, %q, %q", a, b, c)
	}
}

// A refused term leaves nothing behind: what is found hangs on no earlier call.
func TestP19_2NothingIsKept(t *testing.T) {
	l := open("s")
	one := axioms(t, "a")
	two := axioms(t, "a", "s.a")
	for range 3 {
		finds(t, "one", one, l, "a", "a")
		finds(t, "two", two, l, "a", "s.a")
		finds(t, "none", env.New(), l, "a", "")
		finds(t, "cut", two.Cut(1), l, "a", "a")
		finds(t, "nothing open", two, nil, "a", "a")
		refused(t, "one", one, l, app(constant("a"), constant("b")), "b")
		finds(t, "more", of(t, append(one.List(), axiom("s.b"))...), l, "b", "s.b")
	}
}

// Many goroutines may ask at once: nothing that they share is changed.
func TestP19_2AtOnce(t *testing.T) {
	e, l, all := ground(t), opened(), sharing()
	var want []string
	for _, x := range all {
		got, _ := space.Term(e, l, x)
		want = append(want, tell(got))
	}
	var group sync.WaitGroup
	for range 8 {
		group.Go(func() {
			for i, x := range all {
				if got, _ := space.Term(e, l, x); tell(got) != want[i] {
					t.Errorf("%s: %s, want %s", tell(x), tell(got), want[i])
				}
				if whole, ok := space.Find(e, l, "a"); whole != "x.a" || !ok || space.Full(l, "a") != "x.y.u.a" {
					t.Errorf("%s, %v", whole, ok)
				}
			}
		})
	}
	group.Wait()
}
