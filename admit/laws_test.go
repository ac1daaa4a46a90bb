package admit_test

import (
	"math"
	"strconv"
	"testing"

	"vademecum/api"
	"vademecum/env"
	"vademecum/infer"
	"vademecum/syntax"
	"vademecum/whnf"
)

// isType asks for the sort of a type.
func isType(t *testing.T, what string, e *env.Env, ctx []*api.Term, a *api.Term) int {
	t.Helper()
	n, _, err := infer.Sort(e, ctx, a, math.MaxInt)
	if err != nil {
		t.Errorf("%s: %s is no type: %v", what, said(a), err)
	}
	return n
}

// holds asks of each declaration whether it is of its type, by those ahead of it alone.
func holds(t *testing.T, e *env.Env) {
	t.Helper()
	l := e.List()
	for i := 0; i < len(l); i++ {
		d, ahead := l[i], e.Cut(i)
		isType(t, d.Name, ahead, nil, d.Type)
		switch d.Kind {
		case api.DDef:
			if _, err := infer.Check(ahead, nil, d.Value, d.Type, math.MaxInt); err != nil {
				t.Errorf("%s: %s isn't of %s: %v", d.Name, said(d.Value), said(d.Type), err)
			}
		case api.DFamily:
			holdsFamily(t, d, e.Cut(i+1), l[i+1:])
			i += len(d.Family.Cons)
		case api.DCon:
			t.Errorf("%s stands alone", d.Name)
		}
	}
}

// holdsFamily asks of each constructor whether its type is one, and its arguments' as small as the family, by the family and those ahead of it; and whether the recursors' are.
func holdsFamily(t *testing.T, d api.Decl, e *env.Env, behind []api.Decl) {
	t.Helper()
	for k, c := range d.Family.Cons {
		if b := behind[k]; b.Kind != api.DCon || b.Of != d.Name || b.Name != c.Name || said(b.Type) != said(c.Type) {
			t.Errorf("%s: constructor %d: %s of %s", d.Name, k, b.Name, b.Of)
		}
		isType(t, c.Name, e, nil, c.Type)
		var ctx []*api.Term
		for x := c.Type; x.Kind == api.TPi; x = x.B {
			if n := isType(t, c.Name, e, ctx, x.A); len(ctx) >= d.Family.Params && n > d.Family.Sort {
				t.Errorf("%s: %s of sort %d, %s of %d", c.Name, said(x.A), n, d.Name, d.Family.Sort)
			}
			ctx = append(ctx, x.A)
		}
	}
	e = added(t, e, behind[:len(d.Family.Cons)]...)
	for into := range 4 {
		a, _, err := infer.Infer(e, nil, rec(d.Name+".rec", into), math.MaxInt)
		if err != nil {
			t.Errorf("%s.rec@%d: %v", d.Name, into, err)
			continue
		}
		isType(t, d.Name+".rec@"+strconv.Itoa(into), e, nil, a)
	}
}

// What is let in has a type.
func TestP18_3Types(t *testing.T) {
	holds(t, known(t))
	steps := 0
	var last *env.Env
	documents(t, 183, 40, 25, func(m maker, e *env.Env, c call) *env.Env {
		next, err := c.on(e, 3000)
		if steps++; err != nil {
			next = e
		}
		if last = next; steps%25 == 0 {
			holds(t, last)
		}
		return next
	})
}

// A call takes just so much fuel: less is too little, more changes nothing; and what else is there changes nothing.
func TestP18_3Fuel(t *testing.T) {
	counts := map[api.Errno]int{}
	documents(t, 184, 60, 12, func(_ maker, e *env.Env, c call) *env.Env {
		m := &model{e.List(), api.MaxFuel}
		want := m.call(t, c)
		took := api.MaxFuel - m.fuel
		counts[want]++
		for _, fuel := range []int{api.MaxFuel, api.MaxFuel + 1, math.MaxInt} {
			asks(t, e, c, fuel, want)
		}
		if want == api.OK {
			asks(t, e, c, took, api.OK)
			for fuel := max(0, took-7); fuel < took; fuel++ {
				asks(t, e, c, fuel, api.ErrFuel)
			}
			if n := len(c.decls()); e.Len()+n < api.MaxDecls {
				asks(t, added(t, e, api.Decl{Kind: api.DAxiom, Name: "other", Type: sort(0)}), c, took, api.OK)
			}
		} else if want == api.ErrForm || want == api.ErrPos || want == api.ErrName && m.fuel == api.MaxFuel {
			asks(t, e, c, 0, want)
		}
		next, _ := c.on(e, 3000)
		return next
	})
	if counts[api.OK] < 100 {
		t.Errorf("only %d", counts[api.OK])
	}
}

// Said again, what is there makes the same.
func TestP18_3SaidAgain(t *testing.T) {
	last := map[*env.Env]bool{}
	documents(t, 185, 20, 15, func(_ maker, e *env.Env, c call) *env.Env {
		next, err := c.on(e, 3000)
		if err == nil {
			delete(last, e)
			last[next] = true
		}
		return next
	})
	for e := range last {
		again := env.New()
		for _, d := range e.List() {
			c := call{kind: d.Kind, name: d.Name, params: d.Family.Params, a: of(t, syntax.Print(d.Type))}
			switch d.Kind {
			case api.DCon:
				continue
			case api.DDef:
				c.b = of(t, syntax.Print(d.Value))
			}
			for _, con := range d.Family.Cons {
				c.cons = append(c.cons, api.Con{Name: con.Name, Type: of(t, syntax.Print(con.Type))})
			}
			again = allowed(t, "again", again, c, api.MaxFuel)
		}
		if dumpDecls(again.List()) != dumpDecls(e.List()) {
			t.Error("another one")
		}
	}
}

// Nothing stands in its own type, or in its own value.
func TestP18_3NotByItself(t *testing.T) {
	e := known(t)
	for _, c := range []call{
		axiom(t, "x", "x"),
		axiom(t, "x", "x -> x"),
		axiom(t, "x", "eq nat x x"),
		axiom(t, "x", "x.rec@0"),
		def(t, "x", "x", "o"),
		def(t, "x", "void", "x"),
		def(t, "x", "nat -> void", "fun n : nat => x (s n)"),
		def(t, "x", "nat", "x.rec@0"),
		family(t, "x", 0, "p (nat.rec@0 (fun n : nat => nat) o (fun n : nat => fun m : nat => c) o) -> Type0", "c", "x (d o)"),
	} {
		refused(t, "by itself", e, c, 500, api.ErrName)
	}
}

// Nothing is let in that would make something of a family without constructors.
func TestP18_3NothingOfVoid(t *testing.T) {
	e := known(t)
	for _, c := range []struct {
		call call
		err  api.Errno
	}{
		{def(t, "x", "void", "o"), api.ErrType},
		{def(t, "x", "void", "y"), api.ErrType},
		{def(t, "x", "void", "void"), api.ErrType},
		{def(t, "x", "void", "void.rec@0 (fun v : void => void)"), api.ErrType},
		{def(t, "x", "nat -> void", "fun n : nat => n"), api.ErrType},
		{def(t, "x", "eq nat o one", "refl nat o"), api.ErrType},
		{def(t, "x", "pi A : Type0, A", "fun A : Type0 => void"), api.ErrType},
		{family(t, "x", 0, "Type0", "c", "(x -> void) -> x"), api.ErrPos},
		{family(t, "x", 0, "Type0", "c", "((x -> void) -> void) -> x"), api.ErrPos},
		{family(t, "x", 0, "Type0", "c", "(pi A : Type0, x -> A) -> x"), api.ErrPos},
		{family(t, "x", 1, "Type0 -> Type0", "c", "pi A : Type0, (list (x A) -> A) -> x A"), api.ErrPos},
		// All types in one of themselves.
		{family(t, "x", 0, "Type0", "c", "Type0 -> x"), api.ErrSort},
		{family(t, "x", 0, "Type0", "c", "pi A : Type0, (A -> x) -> x"), api.ErrSort},
		{family(t, "x", 0, "Type0", "c", "(Type0 -> Type0) -> x"), api.ErrSort},
		{family(t, "x", 0, "Type0 -> Type0", "c", "pi A : Type0, x A"), api.ErrSort},
	} {
		refused(t, "void", e, c.call, 500, c.err)
	}
	tried := 0
	documents(t, 186, 60, 40, func(m maker, e *env.Env, c call) *env.Env {
		if e.Len() == api.MaxDecls {
			return nil
		}
		d := call{kind: api.DDef, name: "none", a: constant("void"), b: m.of(constant("void"), nil, m.r.Intn(6))}
		if next, err := d.on(e, 3000); next != nil || err == nil {
			t.Errorf("%v", d)
		}
		tried++
		if c.kind == api.DAxiom {
			return nil
		}
		next, _ := c.on(e, 3000)
		return next
	})
	if tried < 1000 {
		t.Errorf("only %d", tried)
	}
}

// What is let in as a number comes to a number, where no axioms are.
func TestP18_3Numbers(t *testing.T) {
	numbers := 0
	documents(t, 187, 80, 40, func(m maker, e *env.Env, c call) *env.Env {
		if e.Len() == api.MaxDecls {
			return nil
		}
		d := call{kind: api.DDef, name: "number", a: constant("nat"), b: m.of(constant("nat"), nil, m.r.Intn(6))}
		if next, err := d.on(e, 3000); err == nil {
			if head := headOf(t, next, constant("number")); head != "o" && head != "s" && head != "y" && head != "nat.rec" {
				t.Errorf("%v comes to %s", d, head)
			} else if head == "o" || head == "s" {
				numbers++
			}
		}
		if c.kind == api.DAxiom {
			return nil
		}
		next, _ := c.on(e, 3000)
		return next
	})
	if numbers < 500 {
		t.Errorf("only %d", numbers)
	}
}

// headOf is the name of what a term comes to, at the head.
func headOf(t *testing.T, e *env.Env, x *api.Term) string {
	t.Helper()
	x, _, err := whnf.Whnf(e, x, 100000)
	if err != nil {
		t.Fatal(err)
	}
	for x.Kind == api.TApp {
		x = x.A
	}
	return x.Name
}
