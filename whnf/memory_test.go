package whnf_test

import (
	"sync"
	"testing"

	"vademecum/api"
	"vademecum/env"
	"vademecum/term"
	"vademecum/whnf"
)

// sharing are terms with shared nodes, one for each way in which a call may end, but for errors.
func sharing(t *testing.T) []*api.Term {
	v := app(constant("f"), variable(0))
	id := lam(v, variable(0))
	return []*api.Term{
		v,
		app(v, v),
		lam(v, lam(v, v)),
		apply(constant("a"), v, id, v, id),
		app(lam(v, app(v, v)), v),
		apply(lam(v, lam(v, app(v, variable(1)))), v, v, v),
		apply(id, id, v, v),
		let(v, v, app(v, v)),
		apply(let(id, id, variable(0)), v, v),
		constant("two"),
		apply(constant("id"), v, v, v),
		apply(constant("plus"), v, v, v),
		natRec(v, v, constant("o")),
		natRec(v, v, app(constant("s"), v)),
		app(natRec(id, id, app(constant("s"), v)), v),
		natRec(v, id, v),
		app(natRec(v, id, app(id, v)), v),
		natRec(v, v, natRec(v, v, app(id, v))),
		apply(rec("vec.rec", 2), v, v, v, v, v, apply(constant("vcons"), v, v, v, v), v),
		apply(rec("w.rec", 2), v, v, app(constant("node"), id)),
		apply(rec("q.rec", 2), v, v, v, v, v, apply(constant("deep"), v, v, id)),
	}
}

// answers are what both calls answer of a term.
func answers(t *testing.T, e *env.Env, x *api.Term) []*api.Term {
	t.Helper()
	stepped, _, _, err := whnf.Step(e, x, 50)
	if err != nil {
		t.Errorf("%s: %v", shown(x), err)
	}
	whole, _, err := whnf.Whnf(e, x, 50)
	if err != nil {
		t.Errorf("%s: %v", shown(x), err)
	}
	return []*api.Term{stepped, whole}
}

// nodesOf are all nodes of some terms.
func nodesOf(l ...*api.Term) map[*api.Term]bool {
	all := map[*api.Term]bool{}
	var add func(t *api.Term)
	add = func(t *api.Term) {
		if t != nil && !all[t] {
			all[t] = true
			add(t.A)
			add(t.B)
			add(t.C)
		}
	}
	for _, t := range l {
		add(t)
	}
	return all
}

// textOf is all that terms have, as a text.
func textOf(l []*api.Term) string {
	text := ""
	for _, t := range l {
		text += dump(t) + ";"
	}
	return text
}

func spoil(nodes map[*api.Term]bool) {
	for node := range nodes {
		*node = api.Term{Kind: api.TConst, Name: "spoilt"}
	}
}

func TestP14_3AnswersAreNew(t *testing.T) {
	e := known(t)
	for _, x := range sharing(t) {
		before, in := dump(x), nodesOf(x)
		first, second := answers(t, e, x), answers(t, e, x)
		want := textOf(first)
		size := 0
		for _, y := range first {
			size += term.Size(y)
		}
		nodes := nodesOf(first...)
		if len(nodes) != size {
			t.Errorf("%s: %d nodes of %d, some are shared", shown(x), len(nodes), size)
		}
		for node := range nodes {
			if in[node] {
				t.Fatalf("%s: a node that was handed in is answered", shown(x))
			}
		}
		spoil(nodes)
		if dump(x) != before {
			t.Fatalf("%s: changed, was %s", dump(x), before)
		}
		if textOf(second) != want || textOf(answers(t, e, x)) != want {
			t.Errorf("%s: spoilt", shown(x))
		}
	}
}

// What was handed in isn't kept: it may be changed as soon as there is an answer.
func TestP14_3NotKept(t *testing.T) {
	e := known(t)
	for _, x := range sharing(t) {
		got := answers(t, e, x)
		want := textOf(got)
		spoil(nodesOf(x))
		if textOf(got) != want {
			t.Errorf("%s: kept", want)
		}
	}
}

// The Env is as it was, whatever was asked.
func TestP14_3EnvStays(t *testing.T) {
	e := known(t)
	before := e.List()
	for _, x := range sharing(t) {
		spoil(nodesOf(answers(t, e, x)...))
	}
	if e.Len() != len(before) {
		t.Fatalf("%d declarations of %d", e.Len(), len(before))
	}
	for i, d := range e.List() {
		if !env.Same(d, before[i]) {
			t.Errorf("%s is changed", d.Name)
		}
	}
}

func TestP14_3AskedAtOnce(t *testing.T) {
	e, l := known(t), sharing(t)
	var want []string
	for _, x := range l {
		want = append(want, textOf(answers(t, e, x)))
	}
	var all sync.WaitGroup
	for range 8 {
		all.Go(func() {
			for range 20 {
				for i, x := range l {
					if textOf(answers(t, e, x)) != want[i] {
						t.Errorf("%s: otherwise", shown(x))
					}
				}
			}
		})
	}
	all.Wait()
}
