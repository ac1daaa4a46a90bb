package recur_test

import (
	"sync"
	"testing"

	"vademecum/api"
	"vademecum/recur"
	"vademecum/term"
)

// handed: what a test hands in, lists with spare room; nodes are shared.
type handed struct {
	d                    api.Decl
	a, p                 *api.Term
	params, minors, args []*api.Term
}

// handIn makes what is handed in of a family, one parameter, one index, one constructor of three arguments.
func handIn() handed {
	shared := app(constant("g"), variable(0))
	ends := app(app(constant("f"), variable(3)), shared)
	h := handed{a: pi(shared, pi(shared, app(app(constant("f"), shared), shared))), p: app(constant("P"), shared)}
	h.d = api.Decl{Kind: api.DFamily, Name: "f", Type: pi(sort(0), pi(shared, sort(0))), Family: api.Family{Params: 1, Indices: 1}}
	arg := pi(shared, pi(lam(shared, shared), app(app(constant("f"), variable(2)), shared)))
	h.d.Family.Cons = append(make([]api.Con, 0, 5), api.Con{Name: "c", Type: pi(sort(0), pi(arg, pi(shared, pi(pi(shared, app(app(constant("f"), variable(3)), shared)), ends))))})
	h.params = append(make([]*api.Term, 0, 5), shared)
	h.minors = append(make([]*api.Term, 0, 5), lam(shared, shared))
	h.args = append(make([]*api.Term, 0, 9), shared, shared, shared)
	return h
}

// nodes are all nodes that are handed in.
func (h handed) nodes() map[*api.Term]bool {
	l := list(h.a, h.p, h.d.Type, h.d.Family.Cons[0].Type)
	for _, m := range [][]*api.Term{h.params, h.minors, h.args} {
		l = append(l, m[:cap(m)]...)
	}
	return known(l...)
}

// text is all that is handed in, the spare room too.
func (h handed) text() string {
	text := dump(h.a, h.p, h.d.Type)
	for _, c := range h.d.Family.Cons[:cap(h.d.Family.Cons)] {
		text += c.Name + dump(c.Type)
	}
	for _, m := range [][]*api.Term{h.params, h.minors, h.args} {
		text += dump(m[:cap(m)]...)
	}
	return text
}

// spoil changes all that was handed in.
func (h handed) spoil() {
	for node := range h.nodes() {
		*node = api.Term{Kind: api.TConst, Name: "spoilt"}
	}
	for _, m := range [][]*api.Term{h.params, h.minors, h.args} {
		clear(m[:cap(m)])
	}
	clear(h.d.Family.Cons)
}

// calls are all calls of what is handed in; what each answers, list by list.
func (h handed) calls() []func() [][]*api.Term {
	return []func() [][]*api.Term{
		func() [][]*api.Term { args, ends := recur.Args(h.d, 0); return [][]*api.Term{args, ends} },
		func() [][]*api.Term { _, ends, _ := recur.Deep(h.d, h.a); return [][]*api.Term{ends} },
		func() [][]*api.Term { return [][]*api.Term{list(recur.Type(h.d, 1))} },
		func() [][]*api.Term {
			return [][]*api.Term{list(recur.Rule(h.d, 1, 0, h.params, h.p, h.minors, h.args))}
		},
		func() [][]*api.Term {
			return [][]*api.Term{list(recur.Rule(h.d, 1, 0, nil, nil, h.minors, nil))}
		},
	}
}

// textOf is all that an answer has, as a text.
func textOf(answer [][]*api.Term) string {
	text := ""
	for _, l := range answer {
		text += dump(l...) + ";"
	}
	return text
}

// known is all nodes of some terms.
func known(l ...*api.Term) map[*api.Term]bool {
	all := map[*api.Term]bool{}
	var add func(t *api.Term)
	add = func(t *api.Term) {
		if t != nil && !all[t] {
			all[t] = true
			add(t.A)
			add(t.B)
			add(t.C)
		}
	}
	for _, t := range l {
		add(t)
	}
	return all
}

func TestP13_4AnswersAreNew(t *testing.T) {
	h := handIn()
	before, in := h.text(), h.nodes()
	for i, call := range h.calls() {
		first, second := call(), call()
		want := textOf(first)
		if textOf(second) != want {
			t.Errorf("call %d: not the same twice", i)
		}
		var l []*api.Term
		size := 0
		for _, m := range first {
			l = append(l, m...)
		}
		for _, x := range l {
			size += term.Size(x)
		}
		if size == 0 {
			t.Errorf("call %d: nothing is told", i)
		}
		nodes := known(l...)
		if len(nodes) != size {
			t.Errorf("call %d: %d nodes of %d, some are shared", i, len(nodes), size)
		}
		for node := range nodes {
			if in[node] {
				t.Fatalf("call %d: a node that was handed in is answered", i)
			}
			*node = api.Term{Kind: api.TConst, Name: "spoilt"}
		}
		if textOf(second) != want || textOf(call()) != want {
			t.Errorf("call %d: spoilt", i)
		}
	}
	if h.text() != before {
		t.Error("what was handed in is changed")
	}
}

// The spare room behind a list is its own, too, and isn't the other list's.
func TestP13_4SpareRoom(t *testing.T) {
	h := handIn()
	before := h.text()
	for i, call := range h.calls() {
		want := textOf(call())
		answer := call()
		for j, l := range answer {
			others := append(append([][]*api.Term{}, answer[:j]...), answer[j+1:]...)
			kept := textOf(others)
			// The list itself and all behind it.
			clear(append(l, h.a)[:cap(l)])
			clear(l[:cap(l)])
			if textOf(others) != kept {
				t.Errorf("call %d: list %d shares its room", i, j)
			}
			answer[j] = call()[j]
		}
		if textOf(call()) != want {
			t.Errorf("call %d: spoilt", i)
		}
	}
	if h.text() != before {
		t.Error("what was handed in is changed")
	}
}

// What was handed in isn't kept: it may be changed as soon as there is an answer.
func TestP13_4NotKept(t *testing.T) {
	h := handIn()
	var answers [][][]*api.Term
	var want []string
	for _, call := range h.calls() {
		answers = append(answers, call())
		want = append(want, textOf(answers[len(answers)-1]))
	}
	h.spoil()
	for i, answer := range answers {
		if textOf(answer) != want[i] {
			t.Errorf("call %d: kept", i)
		}
	}
}

func TestP13_4AskedAtOnce(t *testing.T) {
	h := handIn()
	var want []string
	for _, call := range h.calls() {
		want = append(want, textOf(call()))
	}
	var all sync.WaitGroup
	for range 8 {
		all.Go(func() {
			for range 50 {
				for i, call := range h.calls() {
					if textOf(call()) != want[i] {
						t.Errorf("call %d: otherwise", i)
					}
				}
			}
		})
	}
	all.Wait()
}
