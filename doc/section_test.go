package doc_test

import (
	"fmt"
	"strings"
	"testing"

	"vademecum/api"
	"vademecum/doc"
)

// opened are the names of what is open, with how many declarations there were, and the variables' names.
func opened(d *doc.Doc) string {
	text := ""
	for _, o := range d.Opens() {
		text += fmt.Sprintf("%v %s %d", o.Section, o.Name, o.From)
		for _, v := range o.Vars {
			text += " " + v.Name
		}
		text += "\n"
	}
	return text
}

func TestP22_1Opens(t *testing.T) {
	d := made(t, nats)
	if got := opened(d); got != "" {
		t.Errorf("%s", got)
	}
	d = said(t, d, "section a .", "var A : Type0 .", "space s .", "axiom h : A .", "section a .", "section b .", "var x : A .", "var y : nat -> A .", "def z : A := y o .", "space nat .")
	if got := opened(d); got != "true a 3 A\nfalse s 4\ntrue a 5\ntrue b 5 s.x s.y\nfalse nat 8\n" {
		t.Errorf("%s", got)
	}
	vars := d.Opens()[3].Vars
	if got := tellDecls(vars); got != `1 "s.x" : A := - of "" 0,0,0`+"\n"+`1 "s.y" : pi _0 : nat , A := - of "" 0,0,0`+"\n" {
		t.Errorf("%s", got)
	}
	d = said(t, d, "end nat .", "end b .", "var w : A .")
	if got := opened(d); got != "true a 3 A\nfalse s 4\ntrue a 5 s.w\n" {
		t.Errorf("%s", got)
	}
	d = said(t, d, "end a .", "end s .", "var v : A .", "end a .")
	if got := opened(d); got != "" {
		t.Errorf("%s", got)
	}
}

// So many may be open, and no more: a namespace and a section count alike, whatever their names.
func TestP22_1MaxDepth(t *testing.T) {
	for _, kinds := range [][]string{{"space a ."}, {"section a ."}, {"space a .", "section a ."}} {
		d := made(t, nats)
		for i := range api.MaxDepth {
			d = said(t, d, kinds[i%len(kinds)])
			if len(d.Opens()) != i+1 {
				t.Errorf("%s", opened(d))
			}
		}
		fails(t, d, api.ErrOpen, "space a .", "section a .", "space b .")
		refuses(t, d, api.Sentence{Kind: api.SSpace}, 0, api.ErrOpen)
		said(t, said(t, d, "end a ."), "section b .")
		for range api.MaxDepth {
			d = said(t, d, "end a .")
		}
		fails(t, d, api.ErrOpen, "end a .")
		holds(t, d, "nat o s")
	}
}

// What is opened may have any name; nothing is made in a namespace whose name is none.
func TestP22_1OpenAnyName(t *testing.T) {
	lines := []string{"axiom c : nat .", "def c : nat := o .", "family c 0 : Type0 { e : c } ."}
	for name, isName := range map[string]bool{"": false, ".": false, "1": false, "a b": false, strings.Repeat("x", 2000): false, "nat.rec": true, "fun": true, "Type0": true, "nat": true} {
		for _, kind := range []int{api.SSpace, api.SSection} {
			d := made(t, nats)
			e := done(t, d, api.Sentence{Kind: kind, Name: name}, 0)
			if l := e.Opens(); len(l) != 1 || l[0].Name != name || l[0].Section != (kind == api.SSection) || l[0].From != 3 {
				t.Errorf("%q: %s", name, opened(e))
			}
			answers(t, e, read("check s o ."), enough, "nat")
			fails(t, e, api.ErrOpen, "end y .")
			for _, line := range lines {
				switch {
				case kind == api.SSection:
					prints(t, said(t, e, line), "c", line)
				case isName:
					prints(t, said(t, e, line), "c", strings.NewReplacer(" c ", " "+name+".c ", " e ", " "+name+".e ").Replace(line))
				default:
					refuses(t, e, read(line), enough, api.ErrForm)
				}
			}
			if got := done(t, e, api.Sentence{Kind: api.SEnd, Name: name}, 0); !doc.Same(got, d) {
				t.Errorf("%q: %s", name, tellDoc(got))
			}
		}
	}
}

func TestP22_1Var(t *testing.T) {
	d := made(t, nats, "section a .", "var A : Type0 .", "var x : A .")
	holds(t, d, "nat o s A x")
	prints(t, d, "x", "axiom x : A .")
	fails(t, d, api.ErrName, "var x : A .", "var nat : A .", "var y : y .", "var y : zz .")
	fails(t, d, api.ErrSort, "var y : x .", "var y : Type9 .")
	fails(t, d, api.ErrFun, "var y : x x .")
	for _, name := range []string{"", "1", "a.rec", strings.Repeat("x", 25)} {
		refuses(t, d, api.Sentence{Kind: api.SVar, Name: name, A: sort(0)}, enough, api.ErrForm)
	}
	refuses(t, d, read("var y : A ."), 0, api.ErrFuel)
	fails(t, made(t, nats), api.ErrOpen, "var x : nat .")
	e := said(t, d, "space s .")
	fails(t, e, api.ErrOpen, "var y : A .")
	e = said(t, e, "section b .", "var y : A .")
	prints(t, e, "y", "axiom s.y : A .")
	e = said(t, e, "end b .")
	fails(t, e, api.ErrOpen, "var y : A .")
	prints(t, e, "s.y", "")
	// The name is free again.
	prints(t, said(t, e, "axiom y : nat ."), "y", "axiom s.y : nat .")
}

func TestP22_1End(t *testing.T) {
	fails(t, doc.New(), api.ErrOpen, "end a .")
	refuses(t, doc.New(), api.Sentence{Kind: api.SEnd}, 0, api.ErrOpen)
	d := made(t, nats, "space a .", "section b .", "var A : Type0 .", "axiom x : A -> A .", "space c .", "def y : A -> A := fun z : A => x ( x z ) .")
	fails(t, d, api.ErrOpen, "end a .", "end b .", "end a.b.c .", "end a.c .", "end d .")
	refuses(t, d, api.Sentence{Kind: api.SEnd}, 0, api.ErrOpen)
	d = said(t, d, "end c .")
	holds(t, d, "nat o s a.A a.x a.c.y")
	fails(t, d, api.ErrOpen, "end c .", "end a .")
	d = said(t, d, "end b .")
	holds(t, d, "nat o s a.x a.c.y")
	prints(t, d, "x", "axiom a.x : pi _0 : Type0 , pi _1 : _0 , _0 .")
	prints(t, d, "c.y", "def a.c.y : pi _0 : Type0 , pi _1 : _0 , _0 := fun _0 : Type0 => fun _1 : _0 => a.x _0 ( a.x _0 _1 ) .")
	holds(t, said(t, d, "end a ."), "nat o s a.x a.c.y")
}

// Only the section's own variables go, and only what came behind its beginning changes.
func TestP22_1EndInner(t *testing.T) {
	d := made(t, nats, "section a .", "var A : Type0 .", "def f : A -> Type0 := fun x : A => A .", "axiom k : A .", "section b .", "var x : A .", "def g : Type0 := f x .", "axiom n : nat .", "def h : A := k .")
	d = said(t, d, "end b .")
	holds(t, d, "nat o s A f k g n h")
	prints(t, d, "f", "def f : pi _0 : A , Type0 := fun _0 : A => A .")
	prints(t, d, "g", "def g : pi _0 : A , Type0 := fun _0 : A => f _0 .")
	prints(t, d, "h", "def h : A := k .")
	d = said(t, d, "def i : Type0 := g k .", "end a .")
	prints(t, d, "k", "axiom k : pi _0 : Type0 , _0 .")
	prints(t, d, "g", "def g : pi _0 : Type0 , pi _1 : _0 , Type0 := fun _0 : Type0 => fun _1 : _0 => f _0 _1 .")
	prints(t, d, "n", "axiom n : nat .")
	prints(t, d, "h", "def h : pi _0 : Type0 , _0 := fun _0 : Type0 => k _0 .")
	prints(t, d, "i", "def i : pi _0 : Type0 , Type0 := fun _0 : Type0 => g _0 ( k _0 ) .")
	answers(t, d, read("check i nat ."), enough, "Type0")
}

// What gets too large when its section ends keeps the section from ending.
func TestP22_1EndTooLarge(t *testing.T) {
	// grown is a product of so many parts of a constant, each of which gets two nodes more.
	grown := func(n int, name string) *api.Term {
		t := constant(name)
		for range n - 1 {
			t = pi(constant(name), t)
		}
		return t
	}
	d := made(t, "section a .", "section b .", "var A : Type0 .", "def u : Type0 := A .")
	// n constants, n-1 products, and one node more or two for the binder, and its type.
	fits, over := grown(749, "u"), grown(750, "u")
	x := api.Sentence{Kind: api.SDef, Name: "x", A: sort(0), B: fits}
	e := done(t, done(t, d, x, api.MaxFuel), read("end b ."), 0)
	holds(t, e, "u x")
	if got, _ := e.Env().Find("x"); tell(got.Type) != "pi _0 : Type0 , Type0" || strings.Count(tell(got.Value), "u _0") != 749 {
		t.Errorf("%s", brief(tell(got.Value)))
	}
	x.B = over
	e = done(t, d, x, api.MaxFuel)
	fails(t, e, api.ErrLarge, "end b .", "end b .")
	fails(t, e, api.ErrOpen, "end a .")
	// The section goes on.
	e = said(t, e, "var y : u .", "axiom z : u .")
	if got := opened(e); got != "true a 0\ntrue b 0 A y\n" {
		t.Errorf("%s", got)
	}
	fails(t, e, api.ErrLarge, "end b .")
	y := api.Sentence{Kind: api.SAxiom, Name: "x", A: over}
	fails(t, done(t, d, y, api.MaxFuel), api.ErrLarge, "end b .")
}

// A family may need no variable of what is open, be it through what else there is.
func TestP22_1FamilyNeedsVariable(t *testing.T) {
	d := made(t, nats, "axiom m : Type0 .", "section a .", "var A : Type0 .", "var p : nat -> Type0 .", "axiom B : Type0 .", "def C : Type0 := A .", "def n : nat := o .", "axiom q : C -> nat .",
		"space t .", "section b .", "var D : Type0 .", "var E : C -> Type0 .", "space u .")
	needing := []string{"family f 0 : A -> Type0 { } .", "family f 0 : Type0 { c : A -> f } .", "family f 0 : Type0 { c : f ; e : f -> A -> f } .", "family f 1 : A -> Type0 { } .",
		"family f 0 : Type0 { c : C -> f } .", "family f 0 : C -> Type0 { } .", "family f 0 : Type0 { c : p o -> f } .", "family f 0 : Type0 { c : p n -> f } .", "family f 0 : nat -> Type0 { c : pi x : C , f ( q x ) } .",
		"family f 0 : Type0 { c : ( A -> f ) -> f } ."}
	inner := []string{"family f 0 : Type0 { c : D -> f } .", "family f 0 : pi x : C , E x -> Type0 { } .", "family f 0 : Type0 { c : t.D -> f } ."}
	fails(t, d, api.ErrPos, needing...)
	fails(t, d, api.ErrPos, inner...)
	fine := []string{"family f 0 : Type0 { c : B -> f } .", "family f 0 : Type0 { c : m -> nat -> f } .", "family f 0 : nat -> Type0 { c : f n } .", "family f 1 : pi A : Type0 , A -> Type0 { c : pi A : Type0 , pi D : A , f A D } .", "family f 0 : Type0 { c : ( fun A : Type0 => A ) nat -> f } ."}
	for _, line := range fine {
		e := said(t, d, line)
		f, _ := e.Env().Find("t.u.f")
		// It is the same behind the sections.
		e = said(t, e, "end u .", "end b .", "end t .", "end a .")
		if got, _ := e.Env().Find("t.u.f"); tellDecls([]api.Decl{got}) != tellDecls([]api.Decl{f}) {
			t.Errorf("%s: %s", line, tellDecls([]api.Decl{got}))
		}
	}
	d = said(t, d, "end u .", "end b .")
	fails(t, d, api.ErrPos, needing...)
	fails(t, d, api.ErrName, inner...)
	d = said(t, d, "end t .", "end a .")
	fails(t, d, api.ErrName, needing[0])
	for _, line := range []string{"family f 0 : Type0 { c : ( pi A : Type0 , C A ) -> f } ."} {
		fails(t, d, api.ErrSort, line)
	}
	said(t, d, "family f 0 : Type0 { c : C nat -> f } .", "family g 0 : nat -> Type0 { c2 : pi x : C f , g ( q f x ) } .")
}

// Families behind a section stay as they are; what uses them does too.
func TestP22_1EndWithFamilies(t *testing.T) {
	d := made(t, nats, "section a .", "var A : Type0 .", lists, "def l : list A -> list A := fun x : list A => x .", "def len : list A -> nat := list.rec A ( fun x : list A => nat ) o ( fun a : A => fun x : list A => fun n : nat => s n ) .", "end a .")
	holds(t, d, "nat o s list nil cons l len")
	prints(t, d, "list", "family list 1 : pi _0 : Type0 , Type0 { nil : pi _0 : Type0 , list _0 ; cons : pi _0 : Type0 , pi _1 : _0 , pi _2 : list _0 , list _0 } .")
	prints(t, d, "l", "def l : pi _0 : Type0 , pi _1 : list _0 , list _0 := fun _0 : Type0 => fun _1 : list _0 => _1 .")
	answers(t, said(t, d, "axiom p : nat -> Type0 .", "axiom h : p ( s o ) .", "def k : p ( len nat ( cons nat o ( nil nat ) ) ) := h ."), read("check len nat ."), enough, "pi _0 : list nat , nat")
}
