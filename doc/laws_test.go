package doc_test

import (
	"math/rand"
	"slices"
	"strings"
	"testing"

	"vademecum/admit"
	"vademecum/api"
	"vademecum/doc"
	"vademecum/env"
	"vademecum/infer"
	"vademecum/sent"
	"vademecum/term"
)

// story: a random document, and the sentences that made it, with what was there behind each.
type story struct {
	x    []api.Sentence
	docs []*doc.Doc // one more: a new one first
	was  []string   // these, told when they were made
}

// last is the document behind all.
func (s *story) last() *doc.Doc { return s.docs[len(s.docs)-1] }

// add does a sentence, and tells whether it was accepted.
func (s *story) add(x api.Sentence) bool {
	next, text, err := s.last().Do(x, enough)
	if err != nil || text != "" {
		return false
	}
	s.x = append(s.x, x)
	s.docs = append(s.docs, next)
	s.was = append(s.was, tellDoc(next))
	return true
}

// newStory is a story of so many random sentences at most, and with all ended, if that is asked.
func newStory(t *testing.T, r *rand.Rand, n int, ended bool) *story {
	t.Helper()
	s := &story{docs: []*doc.Doc{doc.New()}, was: []string{""}}
	s.add(read(nats))
	for range n {
		k := &maker{r: r, m: model{s.last().Env().List(), s.last().Opens()}}
		if x := k.sentence(); x.Kind != api.SCheck && x.Kind != api.SPrint {
			s.add(x)
		}
	}
	for ended && len(s.last().Opens()) > 0 {
		l := s.last().Opens()
		if !s.add(api.Sentence{Kind: api.SEnd, Name: l[len(l)-1].Name}) {
			t.Fatalf("can't end:\n%s", tellDoc(s.last()))
		}
	}
	return s
}

// What is said again makes the same again, and no document changes behind what comes of it.
func TestP22_2Again(t *testing.T) {
	r := rand.New(rand.NewSource(222))
	steps := 0
	for range 150 {
		s := newStory(t, r, 60, false)
		d := doc.New()
		for i, x := range s.x {
			next, text, err := d.Do(x, enough)
			if err != nil || text != "" || !doc.Same(next, s.docs[i+1]) || tellDoc(next) != s.was[i+1] {
				t.Fatalf("%s: %v", tellSentence(x), err)
			}
			// It isn't as it was, as no sentence here says nothing.
			if doc.Same(next, d) {
				t.Fatalf("%s: nothing is made", tellSentence(x))
			}
			d = next
			steps++
		}
		for i, d := range s.docs {
			if tellDoc(d) != s.was[i] {
				t.Fatalf("a document is changed:\n%swas\n%s", tellDoc(d), s.was[i])
			}
		}
	}
	if steps < 3000 {
		t.Errorf("%d steps", steps)
	}
}

// Two that come from one document don't touch each other.
func TestP22_2Branches(t *testing.T) {
	r := rand.New(rand.NewSource(223))
	branches := 0
	for range 60 {
		s := newStory(t, r, 60, false)
		for i, d := range s.docs {
			k := &maker{r: r, m: model{d.Env().List(), d.Opens()}}
			if len(k.m.l) == 0 {
				continue
			}
			for range 3 {
				p, _, err := pair{d, k.m}.do(t, k.sentence(), enough)
				if err == nil {
					k.m = p.m
					p.do(t, k.sentence(), enough)
					k.m = model{d.Env().List(), d.Opens()}
					branches++
				}
			}
			if tellDoc(d) != s.was[i] {
				t.Fatalf("a document is changed:\n%swas\n%s", tellDoc(d), s.was[i])
			}
		}
		if i := r.Intn(len(s.docs)); tellDoc(s.last()) != s.was[len(s.was)-1] || tellDoc(s.docs[i]) != s.was[i] {
			t.Fatal("another document is changed")
		}
	}
	if branches < 2000 {
		t.Errorf("%d branches", branches)
	}
	// So many from one, one by one.
	d := made(t, nats, "section a .", "var x : nat .", "space b .", "section c .", "var y : nat .")
	var all []*doc.Doc
	lines := []string{"var z : Type0 .", "var z : Type1 .", "var u : nat .", "section d .", "space d .", "end c .", "axiom z : nat .", "var y.z : nat ."}
	for _, line := range lines {
		all = append(all, said(t, d, line))
	}
	for i, line := range lines {
		if !doc.Same(all[i], said(t, d, line)) {
			t.Errorf("%s: changed by another one", line)
		}
		for k := range i {
			if doc.Same(all[i], all[k]) {
				t.Errorf("%s: like %s", line, lines[k])
			}
		}
	}
	a, b := said(t, all[5], "end b .", "var v : nat ."), said(t, all[5], "section e .", "var w : Type0 .")
	if opened(a) != "true a 3 x v\n" || opened(b) != "true a 3 x\nfalse b 4\ntrue e 4 b.w\n" || opened(all[5]) != "true a 3 x\nfalse b 4\n" {
		t.Errorf("%s%s%s", opened(a), opened(b), opened(all[5]))
	}
}

// What a document holds, printed and said again, makes the same (P40.5).
func TestP22_2Printed(t *testing.T) {
	r := rand.New(rand.NewSource(224))
	lines := 0
	for range 150 {
		s := newStory(t, r, 80, true)
		d := doc.New()
		for _, x := range s.last().Env().List() {
			_, text, err := s.last().Do(api.Sentence{Kind: api.SPrint, Name: x.Name}, 0)
			if err != nil || text == "" {
				t.Fatalf("print %s: %q, %v", x.Name, text, err)
			}
			if x.Kind == api.DCon {
				continue
			}
			y, err := sent.Parse(text)
			if err != nil || sent.Print(y) != text {
				t.Fatalf("%s: %v", text, err)
			}
			d = done(t, d, y, api.MaxFuel)
			lines++
		}
		if !doc.Same(d, s.last()) {
			t.Fatalf("%swant\n%s", tellDoc(d), tellDoc(s.last()))
		}
	}
	if lines < 1500 {
		t.Errorf("%d sentences", lines)
	}
}

// What is there is of its type, whatever was said and ended, and nothing is left of a variable (P40.3, P40.4).
func TestP22_2Types(t *testing.T) {
	r := rand.New(rand.NewSource(225))
	values := 0
	for range 150 {
		s := newStory(t, r, 80, true)
		e := env.New()
		for _, x := range s.last().Env().List() {
			was := e
			var err error
			switch x.Kind {
			case api.DAxiom:
				e, err = admit.Axiom(e, x.Name, x.Type, api.MaxFuel)
			case api.DDef:
				values++
				if _, err := infer.Check(was, nil, x.Value, x.Type, api.MaxFuel); err != nil {
					t.Fatalf("%s: %v", tellDecls([]api.Decl{x}), err)
				}
				e, err = admit.Def(e, x.Name, x.Type, x.Value, api.MaxFuel)
			case api.DFamily:
				e, err = admit.Family(e, x.Name, x.Family.Params, x.Type, x.Family.Cons, api.MaxFuel)
			}
			if err != nil {
				t.Fatalf("%s: %v", tellDecls([]api.Decl{x}), err)
			}
		}
		if tellDecls(e.List()) != tellDecls(s.last().Env().List()) {
			t.Fatalf("%swant\n%s", tellDecls(s.last().Env().List()), tellDecls(e.List()))
		}
		s.nothingOf(t)
	}
	if values < 500 {
		t.Errorf("%d values", values)
	}
}

// nothingOf holds that each section that ended left nothing of its variables.
func (s *story) nothingOf(t *testing.T) {
	t.Helper()
	for i, x := range s.x {
		l := s.docs[i].Opens()
		if x.Kind != api.SEnd || !l[len(l)-1].Section {
			continue
		}
		for _, d := range s.docs[i+1].Env().List() {
			terms := []*api.Term{d.Type, d.Value}
			for _, c := range d.Family.Cons {
				terms = append(terms, c.Type)
			}
			for _, v := range l[len(l)-1].Vars {
				if d.Name == v.Name || slices.ContainsFunc(terms, func(t *api.Term) bool { return term.Has(t, v.Name) }) {
					t.Fatalf("%s has %s", tellDecls([]api.Decl{d}), v.Name)
				}
			}
		}
	}
}

// A whole document, by hand: numbers come to numbers, through namespaces and sections.
func TestP22_2Numbers(t *testing.T) {
	d := made(t, nats, "space num .",
		"def add : nat -> nat -> nat := fun m : nat => nat.rec@0 ( fun n : nat => nat ) m ( fun n : nat => fun k : nat => s k ) .",
		"section twice .", "var A : Type0 .", "var f : A -> A .", "def two : A -> A := fun x : A => f ( f x ) .", "def four : A -> A := fun x : A => two ( two x ) .", "end twice .",
		"end num .", "axiom p : nat -> Type0 .", "axiom is4 : p ( s ( s ( s ( s o ) ) ) ) .",
		"def by_add : p ( num.add ( s o ) ( s ( s ( s o ) ) ) ) := is4 .", "def by_four : p ( num.four nat s o ) := is4 .",
		"space num .", "def by_both : p ( add ( two nat s o ) ( two nat ( add ( s o ) ) o ) ) := is4 .", "end num .")
	fails(t, d, api.ErrType, "def no : p ( num.add ( s o ) ( s ( s o ) ) ) := is4 .", "def no : p ( num.four nat ( num.add ( s ( s o ) ) ) o ) := is4 .")
	prints(t, d, "num.four", "def num.four : pi _0 : Type0 , pi _1 : pi _1 : _0 , _0 , pi _2 : _0 , _0 := fun _0 : Type0 => fun _1 : pi _1 : _0 , _0 => fun _2 : _0 => num.two _0 _1 ( num.two _0 _1 _2 ) .")
	if !strings.HasSuffix(names(d), "p is4 by_add by_four num.by_both") {
		t.Errorf("%s", names(d))
	}
}
