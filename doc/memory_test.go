package doc_test

import (
	"slices"
	"sync"
	"testing"

	"vademecum/api"
	"vademecum/doc"
	"vademecum/env"
	"vademecum/infer"
)

// nodesOf are all nodes of some terms, with what they have.
func nodesOf(l ...*api.Term) map[*api.Term]api.Term {
	all := map[*api.Term]api.Term{}
	var add func(t *api.Term)
	add = func(t *api.Term) {
		if t == nil {
			return
		}
		if _, ok := all[t]; !ok {
			all[t] = *t
			add(t.A)
			add(t.B)
			add(t.C)
		}
	}
	for _, t := range l {
		add(t)
	}
	return all
}

func spoil(nodes map[*api.Term]api.Term) {
	for node := range nodes {
		*node = api.Term{Kind: api.TConst, Name: "spoilt"}
	}
}

// nodesIn are all nodes of a sentence, those in the room behind its list too.
func nodesIn(x api.Sentence) map[*api.Term]api.Term {
	l := []*api.Term{x.A, x.B}
	for _, c := range x.Cons[:cap(x.Cons)] {
		l = append(l, c.Type)
	}
	return nodesOf(l...)
}

// around is a document in which the sentences of sharing may be said.
func around(t *testing.T) *doc.Doc {
	t.Helper()
	return made(t, nats, "axiom p : nat -> Type0 .", "axiom h : pi n : nat , p n .", "space a .", "axiom q : nat -> Type0 .", "section b .", "var v : Type0 .")
}

// sharing are sentences whose terms share nodes, with one another too, and whose lists have spare room.
func sharing() []api.Sentence {
	nat := constant("nat")
	claim := app(constant("p"), app(constant("s"), constant("o")))
	shared := pi(nat, pi(claim, claim))
	own := constant("x")
	con := pi(nat, pi(claim, pi(pi(claim, own), own)))
	cons := append(make([]api.Con, 0, 6), api.Con{Name: "k", Type: con}, api.Con{Name: "l", Type: con}, api.Con{Name: "m", Type: con.B})
	cons[:5][3] = api.Con{Name: "spare", Type: con}
	needing := append(make([]api.Con, 0, 3), api.Con{Name: "k", Type: pi(constant("v"), pi(claim, own))})
	return []api.Sentence{
		{Kind: api.SAxiom, Name: "x", A: shared},
		{Kind: api.SAxiom, Name: "x", A: pi(app(constant("q"), constant("o")), shared)},
		{Kind: api.SVar, Name: "x", A: shared},
		{Kind: api.SDef, Name: "x", A: claim, B: app(constant("h"), claim.B)},
		{Kind: api.SDef, Name: "x", A: sort(0), B: pi(shared, shared)},
		{Kind: api.SFamily, Name: "x", A: sort(0), Cons: cons},
		{Kind: api.SFamily, Name: "x", A: pi(claim, pi(claim, sort(0))), Cons: cons[:0]},
		// These make nothing.
		{Kind: api.SCheck, A: pi(shared, shared), Cons: cons},
		{Kind: api.SCheck, A: lam(claim, shared)},
		{Kind: api.SPrint, Name: "p", A: shared, B: claim, Cons: cons},
		{Kind: api.SSpace, Name: "x", A: shared, B: claim, Cons: cons},
		{Kind: api.SSection, Name: "x", A: shared, B: claim, Cons: cons},
		{Kind: api.SEnd, Name: "b", A: shared, B: claim, Cons: cons},
		// These aren't accepted.
		{Kind: api.SAxiom, Name: "q", A: shared},
		{Kind: api.SAxiom, Name: "x", A: app(claim, claim)},
		{Kind: api.SDef, Name: "x", A: shared, B: claim},
		{Kind: api.SVar, Name: "x", A: constant("o")},
		{Kind: api.SFamily, Name: "x", A: pi(claim, sort(0)), Cons: cons},
		{Kind: api.SFamily, Name: "x", A: sort(0), Cons: needing},
		{Kind: api.SFamily, Name: "y", A: sort(0), Cons: cons},
		{Kind: api.SCommit, A: shared, Cons: cons},
	}
}

// What is handed in stays as it is, with the spare room behind the list, whatever comes of it.
func TestP22_2HandedInStays(t *testing.T) {
	d := around(t)
	for i, x := range sharing() {
		nodes, room := nodesIn(x), slices.Clone(x.Cons[:cap(x.Cons)])
		for _, fuel := range []int{0, 1, 2, 5, 10, 20, 40, enough} {
			_, _, err := d.Do(x, fuel)
			if fuel == enough && (err == nil) != (i < 13) {
				t.Errorf("%s: %v", tellSentence(x), err)
			}
		}
		if !slices.Equal(x.Cons[:cap(x.Cons)], room) {
			t.Errorf("%s: the list is changed", tellSentence(x))
		}
		for node, was := range nodes {
			if *node != was {
				t.Fatalf("%s: a node is changed", tellSentence(x))
			}
		}
	}
}

// What is handed in isn't kept: it may be changed behind the call.
func TestP22_2NothingIsKept(t *testing.T) {
	d := around(t)
	for i := range 13 {
		x := sharing()[i]
		next, text, err := d.Do(x, enough)
		if err != nil {
			t.Fatalf("%s: %v", tellSentence(x), err)
		}
		want := tellDoc(next)
		l := next.Env().List()
		for _, o := range next.Opens() {
			l = append(l, o.Vars...)
		}
		nodes := nodesIn(x)
		for _, y := range l {
			for node := range nodesOf(y.Type, y.Value) {
				if _, ok := nodes[node]; ok {
					t.Fatalf("%s: a node that was handed in is answered", tellSentence(x))
				}
			}
		}
		spoil(nodes)
		clear(x.Cons[:cap(x.Cons)])
		if tellDoc(next) != want {
			t.Errorf("%d: a node or a list that was handed in is kept", i)
		}
		if _, again, err := d.Do(sharing()[i], enough); err != nil || again != text {
			t.Errorf("%d: %q, %v; was %q", i, again, err, text)
		}
	}
}

// What is answered is new: whoever has it may write over it.
func TestP22_2AnswersAreNew(t *testing.T) {
	d := said(t, around(t), "var w : v -> nat -> v .", "section c .", "var u : p o .", "family f 0 : Type0 { g : nat -> f } .", "def z : nat := o .")
	want, lines := tellDoc(d), []string{"axiom x : w.y .", "check w .", "print g .", "var y : p ( s z ) .", "end c .", "space c ."}
	lines[0] = "axiom x : p z ."
	var all []string
	var docs []*doc.Doc
	for _, line := range lines {
		next, text, err := d.Do(read(line), enough)
		if err != nil {
			t.Fatal(err)
		}
		all, docs = append(all, text+tellDoc(next)), append(docs, next)
	}
	for _, x := range append(docs, d) {
		was := tellDoc(x)
		l, e := x.Opens(), x.Env()
		var terms []*api.Term
		for i := range l {
			room := l[i].Vars[:cap(l[i].Vars)]
			for k := range room {
				terms = append(terms, room[k].Type, room[k].Value)
				room[k] = api.Decl{Name: "spoilt"}
			}
		}
		clear(l[:cap(l)])
		for _, y := range e.List() {
			terms = append(terms, y.Type, y.Value)
			for k := range y.Family.Cons {
				terms = append(terms, y.Family.Cons[k].Type)
			}
			clear(y.Family.Cons[:cap(y.Family.Cons)])
		}
		spoil(nodesOf(terms...))
		*e = *env.New()
		if tellDoc(x) != was || tellDoc(d) != want {
			t.Errorf("spoilt:\n%swas\n%s", tellDoc(x), was)
		}
	}
	for i, line := range lines {
		*docs[i] = *doc.New()
		if next, text, err := d.Do(read(line), enough); err != nil || text+tellDoc(next) != all[i] || tellDoc(d) != want {
			t.Errorf("%s: spoilt", line)
		}
	}
	// Neither do two answers share anything.
	a, b := d.Opens(), d.Opens()
	for i := range a {
		a[i].Name = "spoilt"
		for k, v := range a[i].Vars {
			for node := range nodesOf(b[i].Vars[k].Type) {
				if _, ok := nodesOf(v.Type)[node]; ok {
					t.Error("a node is in two answers")
				}
			}
			a[i].Vars[k].Name = "spoilt"
		}
	}
	if tellOpens(b) != tellOpens(d.Opens()) {
		t.Errorf("%s", tellOpens(b))
	}
	if d.Env() == d.Env() {
		t.Error("one Env is answered twice")
	}
	if next, _, _ := d.Do(read("print z ."), 0); next == d {
		t.Error("the document itself is answered")
	}
}

// No two lists of one answer share memory, their spare room included.
func TestP22_2ListsApart(t *testing.T) {
	d := made(t, "section a .", "var x : Type0 .", "var y : x .", "section b .", "var z : x -> x .", "section c .", "space d .", "section e .", "var w : x .")
	want := tellOpens(d.Opens())
	l := d.Opens()
	for i := range l {
		l[i].Vars = append(l[i].Vars, api.Decl{Name: "more"})
		l[i].Vars = l[i].Vars[:len(l[i].Vars)-1]
	}
	if got := tellOpens(l); got != want {
		t.Errorf("%swant\n%s", got, want)
	}
	seen := map[*api.Term]bool{}
	for _, o := range l {
		for _, v := range o.Vars {
			for node := range nodesOf(v.Type) {
				if seen[node] {
					t.Error("a node is there twice")
				}
				seen[node] = true
			}
		}
	}
}

// Several goroutines may do sentences on one document.
func TestP22_2AtOnce(t *testing.T) {
	d := said(t, around(t), "var w : v -> nat -> v .", "def z : v -> v := fun x : v => w x o .")
	var want []string
	for _, x := range sharing() {
		next, text, err := d.Do(x, enough)
		want = append(want, text+told(next)+numberOf(err).Error())
	}
	before := tellDoc(d)
	var wg sync.WaitGroup
	for range 8 {
		wg.Go(func() {
			for range 20 {
				for i, x := range sharing() {
					next, text, err := d.Do(x, enough)
					if got := text + told(next) + numberOf(err).Error(); got != want[i] {
						t.Errorf("%s: %s, want %s", tellSentence(x), got, want[i])
					}
				}
				if tellDoc(d) != before || !doc.Same(d, d) {
					t.Error("the document is changed")
				}
			}
		})
	}
	wg.Wait()
}

// told is a document as a text, if there is one.
func told(d *doc.Doc) string {
	if d == nil {
		return ""
	}
	return tellDoc(d)
}

// What a document answers hangs on what was said to it, and on no other document.
func TestP22_2Alone(t *testing.T) {
	d, e := doc.New(), doc.New()
	d = said(t, d, nats, "section a .", "var x : nat .")
	holds(t, e, "")
	e = said(t, e, "axiom nat : Type3 .", "section a .", "axiom x : nat .")
	prints(t, d, "x", "axiom x : nat .")
	answers(t, d, read("check nat ."), 9, "Type0")
	answers(t, e, read("check nat ."), 9, "Type3")
	if len(d.Opens()[0].Vars) != 1 || len(e.Opens()[0].Vars) != 0 {
		t.Error("variables of another document")
	}
	if _, _, err := infer.Infer(d.Env(), nil, constant("x"), 9); err != nil {
		t.Error(err)
	}
}
