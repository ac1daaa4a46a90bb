package conv_test

import (
	"sync"
	"testing"

	"vademecum/api"
	"vademecum/conv"
	"vademecum/env"
)

// sharing are pairs of terms with shared nodes, one for each way in which terms are compared.
func sharing(t *testing.T) [][2]*api.Term {
	v := app(constant("f"), variable(0))
	id := lam(v, variable(0))
	w := app(id, v)
	return [][2]*api.Term{
		{v, v},
		{sort(1), sort(2)},
		{app(v, v), app(v, w)},
		{pi(v, pi(v, v)), pi(w, pi(w, w))},
		{lam(v, lam(v, v)), lam(w, lam(w, app(id, v)))},
		{lam(v, app(variable(1), variable(0))), variable(0)},
		{variable(0), lam(v, lam(v, apply(variable(2), app(id, variable(1)), variable(0))))},
		{apply(v, v, v), lam(v, apply(app(constant("f"), variable(1)), v, v, variable(0)))},
		{constant("two"), app(constant("s"), constant("one"))},
		{let(v, v, app(v, v)), app(app(constant("f"), v), v)},
		{natRec(v, v, app(id, v)), natRec(w, w, v)},
		{natRec(v, v, natRec(v, v, app(id, v))), natRec(w, v, natRec(w, v, v))},
		{apply(constant("plus"), v, v), apply(constant("plus"), w, w)},
		{long(constant("a"), v, 2000), long(constant("a"), w, 2000)},
		{shared(9, v), shared(9, w)},
	}
}

// nodesOf are all nodes of some terms, with what they have.
func nodesOf(l ...*api.Term) map[*api.Term]api.Term {
	all := map[*api.Term]api.Term{}
	var add func(t *api.Term)
	add = func(t *api.Term) {
		if t == nil {
			return
		}
		if _, ok := all[t]; !ok {
			all[t] = *t
			add(t.A)
			add(t.B)
			add(t.C)
		}
	}
	for _, t := range l {
		add(t)
	}
	return all
}

// What was handed in is as it was, and what was told isn't remembered.
func TestP15_2NothingChanges(t *testing.T) {
	e := known(t)
	before := e.List()
	l := sharing(t)
	var first []told
	for range 2 {
		for i, p := range l {
			nodes := nodesOf(p[0], p[1])
			got := tell(e, p[0], p[1], true, api.MaxFuel)
			for node, was := range nodes {
				if *node != was {
					t.Fatalf("pair %d: a node is changed", i)
				}
			}
			if len(first) < len(l) {
				first = append(first, got)
			}
			if got != first[i] || got.errno != api.OK {
				t.Errorf("pair %d: %v, then %v", i, first[i], got)
			}
		}
	}
	for i, d := range e.List() {
		if e.Len() != len(before) || !env.Same(d, before[i]) {
			t.Fatalf("%s is changed", d.Name)
		}
	}
	// The same nodes with something else in them.
	x, y := app(constant("f"), constant("one")), app(constant("f"), app(constant("s"), constant("o")))
	for _, c := range []struct {
		name string
		want bool
	}{{"one", true}, {"two", false}, {"one", true}, {"o", false}} {
		x.B.Name = c.name
		if got, _, err := conv.Conv(e, x, y, false, 50); got != c.want || err != nil {
			t.Errorf("%s: %v, %v", shown(x), got, err)
		}
	}
}

func TestP15_2AskedAtOnce(t *testing.T) {
	e, l := known(t), sharing(t)
	var want []told
	for _, p := range l {
		want = append(want, tell(e, p[0], p[1], true, 5000))
	}
	var all sync.WaitGroup
	for range 8 {
		all.Go(func() {
			for range 5 {
				for i, p := range l {
					if got := tell(e, p[0], p[1], true, 5000); got != want[i] {
						t.Errorf("pair %d: %v, want %v", i, got, want[i])
					}
				}
			}
		})
	}
	all.Wait()
}
