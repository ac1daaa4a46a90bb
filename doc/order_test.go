package doc_test

import (
	"errors"
	"fmt"
	"strings"
	"testing"

	"vademecum/api"
	"vademecum/doc"
	"vademecum/infer"
)

// none is no term, though its names are found or not like those of one.
func none(name string) *api.Term { return app(constant(name), nil) }

// con is a constructor.
func con(name string, a *api.Term) api.Con { return api.Con{Name: name, Type: a} }

// Of several errors the one that the chapter names first is told.
func TestP22_1Order(t *testing.T) {
	d := made(t, nats, "space a .")
	full := []string{nats, "section a .", "var v : Type0 ."}
	for i := range api.MaxDecls - 5 {
		full = append(full, fmt.Sprint("axiom x", i, " : Type0 ."))
	}
	e := made(t, full...)
	nat, zz, long := constant("nat"), constant("zz"), strings.Repeat("x", 30)
	eight := make([]api.Con, 0, 8)
	for i := range 8 {
		eight = append(eight, con(fmt.Sprint("c", i), constant("f")))
	}
	for _, c := range []struct {
		x    api.Sentence
		why  api.Errno // in a namespace
		last api.Errno // in a section, with room for one more
	}{
		// What is no term, ahead of all.
		{api.Sentence{Kind: api.SAxiom, Name: "x", A: none("zz")}, api.ErrForm, api.ErrForm},
		{api.Sentence{Kind: api.SAxiom, Name: "nat", A: none("nat")}, api.ErrForm, api.ErrForm},
		{api.Sentence{Kind: api.SDef, Name: "x", A: zz, B: none("nat")}, api.ErrForm, api.ErrForm},
		{api.Sentence{Kind: api.SDef, Name: "x", A: none("nat"), B: zz}, api.ErrForm, api.ErrForm},
		{api.Sentence{Kind: api.SDef, Name: "x", A: zz}, api.ErrForm, api.ErrForm},
		{api.Sentence{Kind: api.SFamily, Name: "f", A: zz, Cons: []api.Con{con("c", zz), con("e", none("f"))}}, api.ErrForm, api.ErrForm},
		{api.Sentence{Kind: api.SFamily, Name: "f", A: nil, Cons: []api.Con{con("c", zz)}}, api.ErrForm, api.ErrForm},
		{api.Sentence{Kind: api.SFamily, Name: "f", A: zz, Cons: []api.Con{con("c", nil)}}, api.ErrForm, api.ErrForm},
		{api.Sentence{Kind: api.SVar, Name: "x", A: none("zz")}, api.ErrForm, api.ErrForm},
		{api.Sentence{Kind: api.SVar, Name: "x"}, api.ErrForm, api.ErrForm},
		{api.Sentence{Kind: api.SCheck, A: none("zz")}, api.ErrForm, api.ErrForm},
		{api.Sentence{Kind: api.SCheck}, api.ErrForm, api.ErrForm},
		// No section, ahead of the names.
		{api.Sentence{Kind: api.SVar, Name: "x", A: zz}, api.ErrOpen, api.ErrName},
		{api.Sentence{Kind: api.SVar, Name: long, A: zz}, api.ErrOpen, api.ErrName},
		{api.Sentence{Kind: api.SVar, Name: long, A: nat}, api.ErrOpen, api.ErrForm},
		{api.Sentence{Kind: api.SVar, Name: "nat", A: constant("o")}, api.ErrOpen, api.ErrName},
		{api.Sentence{Kind: api.SVar, Name: "y", A: constant("o")}, api.ErrOpen, api.ErrSort},
		{api.Sentence{Kind: api.SVar, Name: "y", A: nat}, api.ErrOpen, api.OK},
		// Names that aren't there, ahead of what is asked of a declaration.
		{api.Sentence{Kind: api.SAxiom, Name: long, A: zz}, api.ErrName, api.ErrName},
		{api.Sentence{Kind: api.SAxiom, Name: "nat.rec", A: zz}, api.ErrName, api.ErrName},
		{api.Sentence{Kind: api.SDef, Name: long, A: nat, B: zz}, api.ErrName, api.ErrName},
		{api.Sentence{Kind: api.SDef, Name: "x", A: constant("o"), B: zz}, api.ErrName, api.ErrName},
		{api.Sentence{Kind: api.SDef, Name: "x", A: zz, B: constant("nat")}, api.ErrName, api.ErrName},
		{api.Sentence{Kind: api.SFamily, Name: long, A: zz}, api.ErrName, api.ErrName},
		{api.Sentence{Kind: api.SFamily, Name: "f", N: -1, A: zz}, api.ErrName, api.ErrName},
		{api.Sentence{Kind: api.SFamily, Name: "f", N: -1, A: sort(0), Cons: []api.Con{con("c", zz)}}, api.ErrName, api.ErrName},
		{api.Sentence{Kind: api.SFamily, Name: "f", A: nat, Cons: []api.Con{con("c", zz)}}, api.ErrName, api.ErrName},
		{api.Sentence{Kind: api.SFamily, Name: "f", A: sort(0), Cons: append(eight, con("e", zz))}, api.ErrName, api.ErrName},
		{api.Sentence{Kind: api.SFamily, Name: "f", A: sort(0), Cons: append(eight, con("", nat))}, api.ErrForm, api.ErrForm},
		{api.Sentence{Kind: api.SFamily, Name: "f", A: sort(0), Cons: append(eight, con("e", constant("f")))}, api.ErrForm, api.ErrForm},
		{api.Sentence{Kind: api.SFamily, Name: "f", A: sort(0), Cons: eight}, api.OK, api.ErrFull},
		// What is asked of a declaration, in admit's order.
		{api.Sentence{Kind: api.SAxiom, Name: long, A: constant("o")}, api.ErrForm, api.ErrForm},
		{api.Sentence{Kind: api.SAxiom, Name: "nat", A: constant("o")}, api.ErrSort, api.ErrName},
		{api.Sentence{Kind: api.SAxiom, Name: "x", A: constant("o")}, api.ErrSort, api.ErrSort},
		{api.Sentence{Kind: api.SAxiom, Name: "x", A: nat}, api.OK, api.OK},
		{api.Sentence{Kind: api.SDef, Name: "x", A: constant("o"), B: nat}, api.ErrSort, api.ErrSort},
		{api.Sentence{Kind: api.SDef, Name: "nat", A: nat, B: nat}, api.ErrType, api.ErrName},
		{api.Sentence{Kind: api.SFamily, Name: "nat", N: 13, A: nat}, api.ErrForm, api.ErrForm},
		{api.Sentence{Kind: api.SFamily, Name: "nat", A: nat}, api.ErrPos, api.ErrPos},
		{api.Sentence{Kind: api.SFamily, Name: "nat", A: pi(constant("o"), sort(0))}, api.ErrSort, api.ErrName},
		{api.Sentence{Kind: api.SFamily, Name: "f", A: pi(constant("o"), sort(0))}, api.ErrSort, api.ErrSort},
		// A family's variables, behind all of that.
		{api.Sentence{Kind: api.SFamily, Name: "f", A: pi(constant("v"), sort(0))}, api.ErrName, api.ErrPos},
		{api.Sentence{Kind: api.SFamily, Name: "o", A: pi(constant("v"), sort(0))}, api.ErrName, api.ErrName},
		{api.Sentence{Kind: api.SFamily, Name: "f", A: pi(constant("v"), pi(constant("o"), sort(0)))}, api.ErrName, api.ErrSort},
		{api.Sentence{Kind: api.SFamily, Name: "f", A: pi(constant("v"), sort(0)), Cons: []api.Con{con("c", pi(sort(0), pi(constant("v"), app(constant("f"), variable(0)))))}}, api.ErrName, api.ErrSort},
		{api.Sentence{Kind: api.SFamily, Name: "f", A: sort(0), Cons: []api.Con{con("c", pi(constant("v"), constant("f")))}}, api.ErrName, api.ErrFull},
		{api.Sentence{Kind: api.SFamily, Name: "f", A: sort(0), Cons: []api.Con{con("c", pi(sort(0), pi(constant("v"), constant("f"))))}}, api.ErrName, api.ErrSort},
	} {
		for _, fuel := range []int{0, enough} {
			for i, why := range []api.Errno{c.why, c.last} {
				// Without fuel, what takes some isn't come to.
				if fuel == 0 && (why == api.OK || why == api.ErrSort || why == api.ErrType || why == api.ErrFull || why == api.ErrPos && c.x.A.Kind == api.TPi) {
					why = api.ErrFuel
				}
				if on := []*doc.Doc{d, e}[i]; why == api.OK {
					done(t, on, c.x, fuel)
				} else {
					refuses(t, on, c.x, fuel, why)
				}
			}
		}
	}
}

// What is refused tells the number alone, and by what it wraps why.
func TestP22_1Refused(t *testing.T) {
	d := made(t, nats, "section a .", "var v : Type0 .")
	for line, want := range map[string]string{
		"axiom x : zz .":                       `"zz"`,
		"axiom o : nat .":                      `"o"`,
		"def x : nat := nat .":                 `"x"`,
		"family f 0 : Type0 { c : yy -> f } .": `"yy"`,
		"family f 0 : Type0 { c : v -> f } .":  `"v"`,
		"end b .":                              `"b"`,
		"print c .":                            `"c"`,
		"mark c .":                             `"c"`,
		"check o o .":                          "infer",
		"family f 0 : Type0 { c : ( f -> v ) -> f } .": `"c"`,
	} {
		_, _, err := d.Do(read(line), enough)
		why := errors.Unwrap(err)
		if err == nil || why == nil || !strings.Contains(why.Error(), want) || err.Error() != numberOf(err).Error() || numberOf(why) != numberOf(err) {
			t.Errorf("%s: %v, as %v", line, err, why)
		}
	}
}

// A sentence takes so much fuel as the layers below take for it, and has the greatest fuel at most.
func TestP22_1Fuel(t *testing.T) {
	d := made(t, nats, "axiom p : nat -> Type0 .", "section a .", "space b .", "section c .")
	for line, least := range map[string]int{
		"axiom a : Type0 .":                   1,
		"var a : Type0 .":                     1,
		"axiom a : nat -> Type0 .":            3,
		"var a : nat -> Type0 .":              3,
		"def a : nat := o .":                  3,
		"def a : nat := s o .":                6,
		"family a 0 : Type0 { } .":            1,
		"family a 0 : Type0 { b : a } .":      2,
		"family a 0 : Type0 { b : a -> a } .": 5,
		"check Type0 .":                       1,
		"check nat -> Type0 .":                3,
		"check p ( s o ) .":                   7,
	} {
		x := read(line)
		for fuel := -2; fuel < least; fuel++ {
			refuses(t, d, x, fuel, api.ErrFuel)
		}
		refuses(t, d, x, -1<<63, api.ErrFuel)
		for _, fuel := range []int{least, least + 1, api.MaxFuel, api.MaxFuel + 1, 1<<63 - 1} {
			if next, _, err := d.Do(x, fuel); err != nil || next == nil {
				t.Errorf("%s by %d: %v", line, fuel, err)
			}
		}
	}
	for _, line := range []string{"space d .", "section d .", "end c .", "print nat ."} {
		for _, fuel := range []int{-1 << 63, 0, 1<<63 - 1} {
			if next, _, err := d.Do(read(line), fuel); err != nil || next == nil {
				t.Errorf("%s by %d: %v", line, fuel, err)
			}
		}
	}
}

// More fuel than the greatest is as good as that, to the last one.
func TestP22_1FuelHeld(t *testing.T) {
	d := made(t, nats, "axiom k : nat -> nat -> nat .", "axiom p : nat -> Type0 .")
	// used is a term that asks for the type of a number so many times.
	used := func(times int) *api.Term {
		number, t := constant("o"), variable(0)
		for range 198 {
			number = app(constant("s"), number)
		}
		for range times {
			t = app(constant("k"), variable(0), t)
		}
		return let(constant("nat"), number, t)
	}
	at := map[int]bool{}
	for n := range 3 {
		a := used(31)
		for range n {
			a = app(lam(constant("nat"), variable(0)), a)
		}
		for took := 0; took < api.MaxFuel+10 && !t.Failed(); a = app(constant("s"), a) {
			_, left, err := infer.Infer(d.Env(), nil, a, 1<<40)
			if err != nil {
				t.Fatal(err)
			}
			took = 1<<40 - left
			at[took] = true
			switch x := (api.Sentence{Kind: api.SCheck, A: a}); {
			case took > api.MaxFuel:
				refuses(t, d, x, took, api.ErrFuel)
				refuses(t, d, x, 1<<63-1, api.ErrFuel)
			case took > api.MaxFuel-10:
				answers(t, d, x, took, "nat")
				answers(t, d, x, 1<<63-1, "nat")
				refuses(t, d, x, took-1, api.ErrFuel)
			}
		}
	}
	for took := api.MaxFuel - 5; took < api.MaxFuel+5; took++ {
		if !at[took] {
			t.Errorf("nothing takes %d", took)
		}
	}
	refuses(t, d, api.Sentence{Kind: api.SAxiom, Name: "x", A: app(constant("p"), used(40))}, 1<<40, api.ErrFuel)
	refuses(t, d, api.Sentence{Kind: api.SDef, Name: "x", A: constant("nat"), B: used(40)}, 1<<40, api.ErrFuel)
}
