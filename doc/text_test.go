package doc_test

import (
	"strings"
	"testing"

	"vademecum/api"
	"vademecum/doc"
)

func TestP22_1Check(t *testing.T) {
	d := made(t, nats, lists, "space a .", "axiom x : nat .", "section b .", "var A : Type0 .", "var y : A .")
	for line, want := range map[string]string{
		"check nat .":                          "Type0",
		"check Type8 .":                        "Type9",
		"check s .":                            "pi _0 : nat , nat",
		"check s x .":                          "nat",
		"check s a.x .":                        "nat",
		"check y .":                            "a.A",
		"check nil A .":                        "list a.A",
		"check cons A y ( nil A ) .":           "list a.A",
		"check fun n : nat => s n .":           "pi _0 : nat , nat",
		"check pi n : nat , A .":               "Type0",
		"check let n : nat := x in y .":        "a.A",
		"check nat.rec@2 .":                    "pi _0 : pi _0 : nat , Type2 , pi _1 : _0 o , pi _2 : pi _2 : nat , pi _3 : _0 _2 , _0 ( s _2 ) , pi _3 : nat , _0 _3",
		"check nat.rec ( fun n : nat => A ) .": "pi _0 : ( fun _0 : nat => a.A ) o , pi _1 : pi _1 : nat , pi _2 : ( fun _2 : nat => a.A ) _1 , ( fun _3 : nat => a.A ) ( s _1 ) , pi _2 : nat , ( fun _3 : nat => a.A ) _2",
	} {
		answers(t, d, read(line), enough, want)
	}
	fails(t, d, api.ErrName, "check zz .", "check b .", "check fun n : nat => n m .", "check x.rec .", "check a.y.rec .", "check A.y .")
	fails(t, d, api.ErrSort, "check Type9 .", "check fun n : x => n .", "check nat.rec@9 .")
	fails(t, d, api.ErrFun, "check x x .")
	fails(t, d, api.ErrType, "check s nat .", "check let n : nat := nat in n .")
	refuses(t, d, api.Sentence{Kind: api.SCheck, A: variable(0)}, enough, api.ErrVar)
	refuses(t, d, api.Sentence{Kind: api.SCheck, A: lam(sort(0), variable(1))}, enough, api.ErrVar)
	// Nothing else of the sentence counts.
	answers(t, d, api.Sentence{Kind: api.SCheck, A: sort(0), Name: "1", N: -3, B: &api.Term{}, Cons: []api.Con{{}}}, 1, "Type1")
}

// A type that no text says is told as none.
func TestP22_1CheckTooLarge(t *testing.T) {
	part := func(n int) *api.Term {
		t := constant("m")
		for range n {
			t = pi(constant("m"), t)
		}
		return t
	}
	d := done(t, made(t, "axiom m : Type0 ."), api.Sentence{Kind: api.SAxiom, Name: "x", A: part(740)}, api.MaxFuel)
	for n, fits := range map[int]bool{757: true, 758: true, 759: false, 760: false} {
		// The type has 1481 nodes of x's type, 2*n+1 of the part, and one.
		_, text, err := d.Do(api.Sentence{Kind: api.SCheck, A: lam(part(n), constant("x"))}, api.MaxFuel)
		if err != nil || (text != "") != fits {
			t.Errorf("%d: %q, %v", n, brief(text), err)
		}
	}
	answers(t, d, api.Sentence{Kind: api.SCheck, A: lam(part(759), constant("x"))}, api.MaxFuel, "")
}

// The recursor of a family with a long name has a type, though as a term it has too long a name.
func TestP22_1LongRecursor(t *testing.T) {
	name := strings.Repeat("f", 18)
	d := made(t, "space abc .", "family "+name+" 0 : Type0 { } .")
	rec := name + ".rec"
	whole := "abc." + name
	answers(t, d, read("check "+rec+" ."), enough, "pi _0 : pi _0 : "+whole+" , Type0 , pi _1 : "+whole+" , _0 _1")
	fails(t, d, api.ErrForm, "axiom x : "+rec+" .", "def x : Type0 := "+rec+" .", "family g 0 : Type0 { c : "+rec+" -> g } .")
	d = made(t, "family "+strings.Repeat("f", 20)+" 0 : Type0 { } .", "space abc .")
	answers(t, d, read("check "+strings.Repeat("f", 20)+".rec ."), enough, "pi _0 : pi _0 : ffffffffffffffffffff , Type0 , pi _1 : ffffffffffffffffffff , _0 _1")
}

func TestP22_1Print(t *testing.T) {
	d := made(t, nats, "space a .", "axiom x : nat .", "section b .", "var y : nat -> nat .", "def x.y : nat := y x .", "family e 0 : nat -> Type0 { z : e o ; w : pi n : nat , e n -> e ( s n ) } .")
	e := "family a.e 0 : pi _0 : nat , Type0 { a.z : a.e o ; a.w : pi _0 : nat , pi _1 : a.e _0 , a.e ( s _0 ) } ."
	nat := "family nat 0 : Type0 { o : nat ; s : pi _0 : nat , nat } ."
	all := map[string]string{"nat": nat, "o": nat, "s": nat, "x": "axiom a.x : nat .", "a.x": "axiom a.x : nat .", "y": "axiom a.y : pi _0 : nat , nat .", "x.y": "def a.x.y : nat := a.y a.x .", "e": e, "z": e, "a.w": e}
	for name, want := range all {
		prints(t, d, name, want)
	}
	for _, name := range []string{"", "b", "a", "b.y", "a.nat", "e.rec", "nat.rec", "a.e.rec", "rec", ".x", "a..x", "x ", "1", strings.Repeat("x", 3000)} {
		prints(t, d, name, "")
	}
	// It takes no fuel, and nothing else of the sentence counts.
	answers(t, d, api.Sentence{Kind: api.SPrint, Name: "x", N: 7, A: &api.Term{}, B: variable(3), Cons: []api.Con{{}}}, -5, all["x"])
}

// The innermost one of a name is printed; of a recursor there is nothing to print, though a declaration further out may have its name.
func TestP22_1PrintInnermost(t *testing.T) {
	d := made(t, "axiom x : Type0 .", "axiom a.x : Type1 .", "axiom a.b.x : Type2 .", "axiom rec : Type0 .", "family f 0 : Type0 { } .")
	prints(t, d, "x", "axiom x : Type0 .")
	d = said(t, d, "space a .")
	prints(t, d, "x", "axiom a.x : Type1 .")
	prints(t, d, "b.x", "axiom a.b.x : Type2 .")
	d = said(t, d, "space b .")
	prints(t, d, "x", "axiom a.b.x : Type2 .")
	prints(t, d, "a.x", "axiom a.x : Type1 .")
	d = said(t, d, "end b .", "end a .", "space f .")
	prints(t, d, "rec", "")
	prints(t, d, "x", "axiom x : Type0 .")
	prints(t, said(t, d, "end f ."), "rec", "axiom rec : Type0 .")
}

// A keyword may be declared, but no line says it.
func TestP22_1PrintKeyword(t *testing.T) {
	for _, name := range []string{"fun", "Type0"} {
		d := done(t, doc.New(), api.Sentence{Kind: api.SAxiom, Name: name, A: sort(0)}, enough)
		holds(t, d, name)
		prints(t, said(t, d, "axiom x : Type0 ."), "x", "axiom x : Type0 .")
		answers(t, d, api.Sentence{Kind: api.SPrint, Name: name}, 0, "")
	}
}

func TestP22_1OtherKinds(t *testing.T) {
	d := made(t, nats, "section a .", "var x : nat .")
	fails(t, d, api.ErrForm, "undo 1 .", "undo 0 .", "back 0 .", "mark a .", "restore a .", "commit .")
	for _, kind := range []int{-1 << 63, -1, 0, api.SUndo, api.SBack, api.SMark, api.SRestore, api.SCommit, 15, 16, 1<<63 - 1} {
		refuses(t, d, api.Sentence{Kind: kind, Name: "a", N: 1, A: sort(0), B: sort(0)}, enough, api.ErrForm)
		refuses(t, d, api.Sentence{Kind: kind}, 0, api.ErrForm)
		refuses(t, d, api.Sentence{Kind: kind, Name: "a", A: constant("zz")}, 0, api.ErrForm)
	}
}

// Each part of what is declared or open counts, and nothing else.
func TestP22_1Same(t *testing.T) {
	rows := [][]string{
		nil, {nats}, {"axiom a : Type0 ."}, {"axiom a : Type1 ."}, {"axiom b : Type0 ."}, {"axiom a : Type0 .", "axiom b : Type0 ."}, {"axiom b : Type0 .", "axiom a : Type0 ."},
		{"def a : Type1 := Type0 ."}, {"axiom a : Type2 ."}, {"def a : Type2 := Type0 ."}, {"def a : Type2 := Type1 ."}, {"family a 0 : Type0 { } ."}, {"family a 0 : Type0 { b : a } ."},
		{"family a 0 : Type0 { c : a } ."}, {"family a 0 : Type0 { b : a -> a } ."}, {"family a 0 : Type0 -> Type0 { } ."}, {"family a 1 : Type0 -> Type0 { } ."},
		{"space a ."}, {"section a ."}, {"space b ."}, {"space a .", "space a ."}, {"space a .", "section a ."}, {"section a .", "space a ."}, {"section a .", "section a ."},
		{"axiom x : Type0 .", "section a ."}, {"section a .", "axiom x : Type0 ."}, {"section a .", "var x : Type0 ."}, {"section a .", "var x : Type1 ."}, {"section a .", "var x : Type0 .", "axiom y : Type0 ."}, {"section a .", "axiom x : Type0 .", "var y : Type0 ."},
		{"section a .", "section b .", "var x : Type0 ."}, {"section a .", "var x : Type0 .", "section b ."}, {"section a .", "var x : Type0 .", "var y : Type0 ."}, {"section a .", "var y : Type0 .", "var x : Type0 ."},
		{"section a .", "var x : Type0 .", "section b .", "var y : Type0 ."},
	}
	for i, a := range rows {
		for k, b := range rows {
			if doc.Same(made(t, a...), made(t, b...)) != (i == k) {
				t.Errorf("%q, %q", a, b)
			}
		}
	}
	alike := [][2][]string{
		{{"axiom s.x : Type0 ."}, {"space s .", "axiom x : Type0 .", "end s ."}},
		{{"def x : pi A : Type0 , Type0 := fun B : Type0 => B ."}, {"section s .", "var C : Type0 .", "def x : Type0 := C .", "end s ."}},
		{{"axiom x : Type0 -> Type0 ."}, {"axiom x : pi A : Type0 , Type0 .", "section s .", "var y : Type0 .", "end s ."}},
		{{"space s .", "axiom x : Type0 ."}, {"space s .", "section t .", "end t .", "axiom x : Type0 ."}},
	}
	for _, l := range alike {
		if a, b := made(t, l[0]...), made(t, l[1]...); !doc.Same(a, b) || !doc.Same(b, a) {
			t.Errorf("%q", l)
		}
	}
	d := made(t, nats)
	if !doc.Same(d, d) {
		t.Error("it isn't itself")
	}
}
