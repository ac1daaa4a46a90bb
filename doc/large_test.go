package doc_test

import (
	"fmt"
	"strings"
	"testing"

	"vademecum/api"
	"vademecum/doc"
	"vademecum/term"
)

// arrows is a product of n parts of a constant, of 2n+1 nodes.
func arrows(n int, name string) *api.Term {
	t := constant(name)
	for range n {
		t = pi(constant(name), t)
	}
	return t
}

// sized is a type of so many nodes.
func sized(n int) *api.Term {
	if n%2 == 1 {
		return arrows(n/2, "c")
	}
	return let(sort(0), constant("c"), arrows(n/2-2, "c"))
}

// Terms of 3000 nodes are done, ones of 3001 are none.
func TestP22_1MaxNodes(t *testing.T) {
	d := made(t, "space s .", "axiom c : Type0 .", "section r .")
	for size := 2998; size < 3004; size++ {
		a := sized(size)
		if term.Size(a) != min(size, 3001) {
			t.Fatalf("%d: %d", size, term.Size(a))
		}
		for _, x := range []api.Sentence{
			{Kind: api.SAxiom, Name: "x", A: a},
			{Kind: api.SVar, Name: "x", A: a},
			{Kind: api.SDef, Name: "x", A: sort(0), B: a},
		} {
			if term.Size(x.A) > api.MaxNodes || term.Size(x.B) > api.MaxNodes {
				refuses(t, d, x, api.MaxFuel, api.ErrForm)
				continue
			}
			e := done(t, d, x, api.MaxFuel)
			got, _ := e.Env().Find("s.x")
			if term.Size(got.Type) != term.Size(x.A) || term.Size(got.Value) != term.Size(x.B) {
				t.Errorf("%d: %d, %d", size, term.Size(got.Type), term.Size(got.Value))
			}
		}
		// A family's type, and a constructor's.
		family := api.Sentence{Kind: api.SFamily, Name: "f", A: pi(sized(size-2), sort(0))}
		box := api.Sentence{Kind: api.SFamily, Name: "f", A: sort(0), Cons: []api.Con{con("e", pi(sized(size-2), constant("f")))}}
		check := api.Sentence{Kind: api.SCheck, A: a}
		if size <= api.MaxNodes {
			done(t, d, family, api.MaxFuel)
			done(t, d, box, api.MaxFuel)
			answers(t, d, check, api.MaxFuel, "Type0")
		} else {
			refuses(t, d, family, api.MaxFuel, api.ErrForm)
			refuses(t, d, box, api.MaxFuel, api.ErrForm)
			refuses(t, d, check, api.MaxFuel, api.ErrForm)
		}
	}
}

// What hangs on itself, or can't be unfolded, is no term.
func TestP22_1Endless(t *testing.T) {
	d := made(t, nats, "section r .")
	loop := pi(constant("nat"), nil)
	loop.B = loop
	shared := constant("nat")
	for range 200 {
		shared = pi(shared, shared)
	}
	for _, a := range []*api.Term{loop, shared, app(constant("s"), loop)} {
		for _, x := range []api.Sentence{
			{Kind: api.SAxiom, Name: "x", A: a},
			{Kind: api.SVar, Name: "x", A: a},
			{Kind: api.SDef, Name: "x", A: a, B: constant("o")},
			{Kind: api.SDef, Name: "x", A: constant("nat"), B: a},
			{Kind: api.SFamily, Name: "x", A: a},
			{Kind: api.SFamily, Name: "x", A: sort(0), Cons: []api.Con{con("c", constant("x")), con("e", a)}},
			{Kind: api.SCheck, A: a},
		} {
			if _, _, err := d.Do(x, enough); numberOf(err) != api.ErrForm {
				t.Errorf("Kind %d: %v", x.Kind, err)
			}
		}
		// A Kind that has no such part doesn't look at it.
		for _, x := range []api.Sentence{{Kind: api.SSpace, A: a}, {Kind: api.SEnd, Name: "r", B: a}, {Kind: api.SPrint, Name: "o", A: a}, {Kind: api.SAxiom, Name: "x", A: sort(0), B: a, Cons: []api.Con{con("c", a)}}, {Kind: api.SCheck, A: sort(0), B: a}} {
			if next, _, err := d.Do(x, enough); err != nil || next == nil {
				t.Errorf("Kind %d: %v", x.Kind, err)
			}
		}
	}
}

// So many declarations there may be, and no more; all else is done as ever.
func TestP22_1MaxDecls(t *testing.T) {
	d := made(t, nats, "space a .", "section b .", "var v : Type0 .")
	for i := range api.MaxDecls - 6 {
		d = said(t, d, fmt.Sprint("def d", i, " : Type0 := v ."))
	}
	e := said(t, d, "family f 0 : Type0 { c : f } .")
	fails(t, d, api.ErrFull, "family f 0 : Type0 { c : f ; e : f } .")
	for _, full := range []*doc.Doc{e, said(t, d, "axiom x : nat .", "var y : v ."), said(t, d, "var x : nat .", "def y : nat := o .")} {
		fails(t, full, api.ErrFull, "axiom z : nat .", "var z : nat .", "def z : nat := o .", "family z 0 : Type0 { } .")
		fails(t, full, api.ErrName, "axiom v : nat .", "var v : nat .", "family z 0 : Type0 { v : z } .")
		answers(t, full, read("check d0 ."), enough, "Type0")
		prints(t, full, "d193", "def a.d193 : Type0 := a.v .")
		closed := said(t, said(t, full, "space k .", "section k ."), "end k .", "end k .", "end b .")
		prints(t, closed, "d193", "def a.d193 : pi _0 : Type0 , Type0 := fun _0 : Type0 => _0 .")
		said(t, closed, "axiom z : nat .")
	}
}

// Far more constructors than there may be are refused as one too many is, but for names that aren't there.
func TestP22_1ManyConstructors(t *testing.T) {
	d := made(t, nats, "space "+strings.Repeat("a", 12)+" .", "space b .")
	x := api.Sentence{Kind: api.SFamily, Name: "f", A: sort(0), Cons: make([]api.Con, 1<<18)}
	for i := range x.Cons {
		x.Cons[i] = con("c", pi(constant("nat"), pi(constant("b.f"), constant("f"))))
	}
	refused := func(why api.Errno) {
		t.Helper()
		if next, text, err := d.Do(x, enough); next != nil || text != "" || numberOf(err) != why {
			t.Errorf("%v; want %v", err, why)
		}
	}
	refused(api.ErrForm)
	last := &x.Cons[len(x.Cons)-1]
	last.Type = pi(constant("c"), constant("f"))
	refused(api.ErrName)
	last.Type = nil
	refused(api.ErrForm)
	for n := range 12 {
		x.Cons = nil
		for i := range n {
			x.Cons = append(x.Cons, con(fmt.Sprint("c", i), pi(constant("nat"), constant("f"))))
		}
		if n <= api.MaxCons {
			done(t, d, x, enough)
		} else {
			refuses(t, d, x, enough, api.ErrForm)
		}
	}
}

// Names are as long as they come.
func TestP22_1LongNames(t *testing.T) {
	long := strings.Repeat("n", 1<<20)
	d := done(t, made(t, nats), api.Sentence{Kind: api.SSection, Name: long}, 0)
	e := done(t, d, api.Sentence{Kind: api.SSpace, Name: long}, 0)
	for _, x := range []*doc.Doc{d, e} {
		for _, y := range []api.Sentence{{Kind: api.SAxiom, Name: long, A: sort(0)}, {Kind: api.SDef, Name: long, A: constant("nat"), B: constant("o")}, {Kind: api.SFamily, Name: long, A: sort(0)}, {Kind: api.SFamily, Name: "f", A: sort(0), Cons: []api.Con{con(long, constant("f"))}}} {
			refuses(t, x, y, enough, api.ErrForm)
		}
		prints(t, x, long, "")
		prints(t, x, long+".nat", "")
		answers(t, x, read("check s o ."), enough, "nat")
		refuses(t, x, api.Sentence{Kind: api.SEnd, Name: long + "n"}, 0, api.ErrOpen)
		done(t, x, api.Sentence{Kind: api.SEnd, Name: long}, 0)
	}
	refuses(t, e, read("family f 0 : Type0 { c : f -> f } ."), enough, api.ErrForm)
	refuses(t, e, read("family f 0 : Type0 { c : f.f -> f } ."), enough, api.ErrName)
	// A whole name has 24 bytes at most.
	d = made(t, "space abcdefghij .", "space k .", "section l .")
	for n, ok := range map[int]bool{10: true, 11: true, 12: false, 13: false} {
		name := strings.Repeat("x", n)
		for _, line := range []string{"axiom " + name + " : Type0 .", "def " + name + " : Type1 := Type0 .", "var " + name + " : Type0 .", "family " + name + " 0 : Type0 { c : " + name + " } .", "family f 0 : Type0 { " + name + " : f } ."} {
			if !ok {
				fails(t, d, api.ErrForm, line)
				continue
			}
			e := said(t, d, line)
			if _, ok := e.Env().Find("abcdefghij.k." + name); !ok {
				t.Errorf("%s", names(e))
			}
		}
	}
}

// Constructors that name all that is there, by each of its names.
func TestP22_1ManyNames(t *testing.T) {
	var lines []string
	for i := range 60 {
		lines = append(lines, fmt.Sprint("axiom x", i, " : Type0 ."), fmt.Sprint("axiom a.x", i, " : Type0 ."), fmt.Sprint("axiom a.b.x", i, " : Type0 ."))
	}
	d := made(t, append(lines, "section s .", "space a .", "space b .")...)
	var all []string
	for i := range 60 {
		all = append(all, fmt.Sprint("x", i), fmt.Sprint("a.x", i), fmt.Sprint("b.x", i), fmt.Sprint("a.b.x", i))
	}
	x := api.Sentence{Kind: api.SFamily, Name: "f", A: sort(0)}
	for i := range api.MaxCons {
		part := constant(all[i])
		for k := range 1480 {
			part = pi(constant(all[(i+k)%len(all)]), part)
		}
		x.Cons = append(x.Cons, con(fmt.Sprint("c", i), pi(part, constant("f"))))
	}
	p := pair{d, model{d.Env().List(), d.Opens()}}
	if _, _, err := p.do(t, x, api.MaxFuel); numberOf(err) != api.ErrFuel {
		t.Errorf("%v", err)
	}
	x.Cons = x.Cons[:3]
	if _, _, err := p.do(t, x, api.MaxFuel); err != nil {
		t.Errorf("%v", err)
	}
	x.Cons[2].Type = pi(constant("a.b.x60"), constant("f"))
	refuses(t, d, x, api.MaxFuel, api.ErrName)
}

// Sections in one another, each with many variables that all are needed.
func TestP22_1ManyVariables(t *testing.T) {
	d := made(t, "axiom k : Type0 -> Type0 -> Type0 .")
	n := 0
	for i := range api.MaxDepth {
		d = said(t, d, fmt.Sprint("section s", i, " ."))
		for range 10 {
			d = said(t, d, fmt.Sprint("var v", n, " : Type0 ."))
			n++
		}
		all := "v0"
		for i := 1; i < n; i++ {
			all = fmt.Sprint("k v", i, " ( ", all, " )")
		}
		d = said(t, d, fmt.Sprint("def d", i, " : Type0 := ", all, " ."))
		fails(t, d, api.ErrPos, fmt.Sprint("family f 0 : Type0 { c : d", i, " -> f } ."))
	}
	for i := api.MaxDepth - 1; i >= 0; i-- {
		if got := len(d.Opens()[i].Vars); got != 10 {
			t.Errorf("%d variables", got)
		}
		d = said(t, d, fmt.Sprint("end s", i, " ."))
	}
	holds(t, d, "k d0 d1 d2 d3 d4 d5")
	for i := range api.MaxDepth {
		got, _ := d.Env().Find(fmt.Sprint("d", i))
		if want := strings.Count(tell(got.Type), "Type0"); want != 10*(i+1)+1 {
			t.Errorf("d%d: %s", i, tell(got.Type))
		}
	}
}
