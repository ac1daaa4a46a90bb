package infer_test

import (
	"math/rand"
	"testing"

	"vademecum/api"
	"vademecum/conv"
	"vademecum/env"
	"vademecum/infer"
	"vademecum/shift"
	"vademecum/whnf"
)

// plenty is more fuel than any of the small terms takes.
const plenty = 200000

// typed: a term that has a type, and how much fuel its type takes.
type typed struct {
	env   *env.Env
	ctx   []*api.Term
	t, of *api.Term
	took  int
}

// laws calls a test with random terms that have a type.
func laws(t *testing.T, test func(m maker, x typed)) {
	t.Helper()
	e := known(t)
	r := rand.New(rand.NewSource(162))
	m := maker{r, e}
	tested := 0
	for range 2500 {
		ctx := m.context(r.Intn(4))
		if !isContext(e, ctx) {
			continue
		}
		x := m.of(m.typ(ctx, r.Intn(3)), ctx, r.Intn(5))
		a, left, err := infer.Infer(e, ctx, x, plenty)
		if err == nil {
			tested++
			test(m, typed{e, ctx, x, a, plenty - left})
		}
	}
	if tested < 700 {
		t.Errorf("only %d", tested)
	}
}

// isContext tells whether all that is around are types.
func isContext(e *env.Env, ctx []*api.Term) bool {
	for i, a := range ctx {
		if _, _, err := infer.Sort(e, ctx[:i], a, plenty); err != nil {
			return false
		}
	}
	return true
}

// infers holds Infer against the type that it should tell, by just as much fuel as it should take.
func (x typed) infers(t *testing.T, what string) {
	t.Helper()
	got, left, err := infer.Infer(x.env, x.ctx, x.t, x.took)
	if dump(got) != dump(x.of) || left != 0 || err != nil {
		t.Errorf("%s: %s by %d: %s, %d, %v; want %s", what, shown(x.t), x.took, shown(got), left, err, shown(x.of))
	}
}

// A term is of the type that it has, which takes one of fuel more, and of none that is another one.
func TestP16_2OneType(t *testing.T) {
	laws(t, func(m maker, x typed) {
		x.infers(t, "again")
		if left, err := infer.Check(x.env, x.ctx, x.t, x.of, x.took+1); left != 0 || err != nil {
			t.Errorf("%s is of %s: %d, %v", shown(x.t), shown(x.of), left, err)
		}
		other := m.typ(x.ctx, 2)
		same, left, err := conv.Conv(x.env, x.of, other, true, plenty)
		if err != nil {
			return
		}
		took := x.took + plenty - left
		switch rest, err := infer.Check(x.env, x.ctx, x.t, other, took); {
		case same && (rest != 0 || err != nil):
			t.Errorf("%s is of %s: %d, %v", shown(x.t), shown(other), rest, err)
		case !same:
			refused(t, shown(x.t)+" is of "+shown(other), took, api.ErrType, err, rest == 0)
		}
	})
}

// A type has a type itself, if there is no greatest sort in it.
func TestP16_2TypesHaveTypes(t *testing.T) {
	laws(t, func(_ maker, x typed) {
		n, _, err := infer.Sort(x.env, x.ctx, x.of, plenty)
		if err != nil && !hasSort(x.of, api.MaxSort) || n < 0 || n > api.MaxSort {
			t.Errorf("%s has %s: %d, %v", shown(x.t), shown(x.of), n, err)
		}
	})
}

// hasSort tells whether a sort stands in a term.
func hasSort(t *api.Term, n int) bool {
	return t != nil && (t.Kind == api.TSort && t.N == n || hasSort(t.A, n) || hasSort(t.B, n) || hasSort(t.C, n))
}

// What else is around, or declared, changes nothing.
func TestP16_2Around(t *testing.T) {
	laws(t, func(m maker, x typed) {
		more := x
		more.env = assumed(t, x.env, "further", sort(0))
		more.infers(t, "among more")
		more = x
		more.ctx = append(under1(x.ctx, m.typ(x.ctx, 2)), constant("further"))
		more.t, more.of = shift.Lift(x.t, 2, 0), shift.Lift(x.of, 2, 0)
		more.infers(t, "with more around")
		// Some that are further out.
		more.ctx = []*api.Term{sort(4), constant("further")}
		for i, a := range x.ctx {
			more.ctx = append(more.ctx, shift.Lift(a, 2, i))
		}
		more.t, more.of = shift.Lift(x.t, 2, len(x.ctx)), shift.Lift(x.of, 2, len(x.ctx))
		more.infers(t, "with more further out")
	})
}

// What is around may as well be bound in the term.
func TestP16_2Bound(t *testing.T) {
	laws(t, func(_ maker, x typed) {
		for len(x.ctx) > 0 {
			last := len(x.ctx) - 1
			_, left, err := infer.Sort(x.env, x.ctx[:last], x.ctx[last], plenty)
			if err != nil {
				t.Fatal(err)
			}
			x.t, x.of = lam(x.ctx[last], x.t), pi(x.ctx[last], x.of)
			x.took += 1 + plenty - left
			x.ctx = x.ctx[:last]
			x.infers(t, "bound")
		}
	})
}

// The value of a let is put in ahead of all else: the whole takes what that takes, beside the value's own type.
func TestP16_2Lets(t *testing.T) {
	laws(t, func(m maker, x typed) {
		if len(x.ctx) == 0 {
			return
		}
		last := len(x.ctx) - 1
		ctx, a := x.ctx[:last], x.ctx[last]
		value := m.of(a, ctx, 2)
		_, sorted, err := infer.Sort(x.env, ctx, a, plenty)
		if err != nil {
			t.Fatal(err)
		}
		checked, err := infer.Check(x.env, ctx, value, a, plenty)
		if err != nil {
			return
		}
		put := shift.Put(x.t, value, 0)
		b, left, err := infer.Infer(x.env, ctx, put, plenty)
		if err != nil {
			t.Errorf("%s, with %s put in: %v", shown(x.t), shown(value), err)
			return
		}
		took := 1 + 3*plenty - sorted - checked - left
		typed{x.env, ctx, let(a, value, x.t), b, took}.infers(t, "let")
		// A function of the variable tells the type that it has whatever is put in, of which the value's may be less.
		f := app(lam(a, x.t), value)
		whole, _, err := infer.Infer(x.env, ctx, f, plenty)
		if dump(whole) != dump(shift.Put(x.of, value, 0)) || err != nil {
			t.Errorf("%s: %s, %v; want %s, put in", shown(f), shown(whole), err, shown(x.of))
		}
		if same, _, err := conv.Conv(x.env, b, whole, true, plenty); !same || err != nil {
			t.Errorf("%s: %s and %s: %v, %v", shown(f), shown(whole), shown(b), same, err)
		}
	})
}

// Reducing keeps the type.
func TestP16_2Reduced(t *testing.T) {
	laws(t, func(_ maker, x typed) {
		y, more := x.t, true
		for range 40 {
			var err error
			if y, _, more, err = whnf.Step(x.env, y, plenty); err != nil {
				t.Fatal(err)
			}
			if _, err := infer.Check(x.env, x.ctx, y, x.of, plenty); err != nil {
				t.Errorf("%s of %s is reduced to %s: %v", shown(x.t), shown(x.of), shown(y), err)
			}
			if !more {
				break
			}
		}
	})
}

// numeral is a number as a term.
func numeral(n int) *api.Term {
	t := constant("o")
	for range n {
		t = app(constant("s"), t)
	}
	return t
}

// Numbers have the type of numbers, and proofs that they are the same are proofs just where they are.
func TestP16_2Numbers(t *testing.T) {
	e, nat := known(t), constant("nat")
	for a := range 5 {
		for b := range 5 {
			sum, product := apply(constant("plus"), numeral(a), numeral(b)), apply(constant("times"), numeral(a), numeral(b))
			for _, x := range []*api.Term{sum, product} {
				if got, _, err := infer.Infer(e, nil, x, plenty); dump(got) != dump(nat) || err != nil {
					t.Errorf("%s: %s, %v", shown(x), shown(got), err)
				}
			}
			for n := range 18 {
				for x, want := range map[*api.Term]bool{sum: n == a+b, product: n == a*b} {
					proof, claim := apply(constant("refl"), nat, numeral(n)), apply(constant("eq"), nat, numeral(n), x)
					if left, err := infer.Check(e, nil, proof, claim, plenty); (err == nil) != want || (left > 0) != want || !want && numberOf(err) != api.ErrType {
						t.Errorf("%d is %s: %d, %v", n, shown(x), left, err)
					}
				}
			}
		}
	}
}

// A recursor applied has the type that its motive tells of what it is applied to.
func TestP16_2Recursors(t *testing.T) {
	e := known(t)
	for _, c := range []struct {
		term, of string
	}{
		{"fun l : list nat => list.rec@0 nat (fun l : list nat => nat) o (fun a : nat => fun l : list nat => fun m : nat => s m) l", "list nat -> nat"},
		{"fun x : no => no.rec@0 (fun x : no => nat) x", "no -> nat"},
		{"fun x : no => no.rec@3 (fun x : no => Type2) x", "no -> Type2"},
		{"fun a : nat => fun b : nat => fun q : eq nat a b => eq.rec@0 nat a (fun z : nat => fun r : eq nat a z => eq nat z a) (refl nat a) b q", "pi a : nat, pi b : nat, eq nat a b -> eq nat b a"},
		{"fun a : nat => fun b : nat => fun q : eq nat a b => eq.rec@0 nat a (fun z : nat => fun r : eq nat a z => eq nat (s a) (s z)) (refl nat (s a)) b q", "pi a : nat, pi b : nat, eq nat a b -> eq nat (s a) (s b)"},
		{"fun x : tree => tree.rec@0 (fun x : tree => nat) (fun f : nat -> tree => fun m : nat -> nat => m o) x", "tree -> nat"},
		{"fun m : nat => fun v : vec nat m => vec.rec@0 nat (fun m : nat => fun v : vec nat m => list nat) (nil nat) (fun m : nat => fun a : nat => fun v : vec nat m => fun l : list nat => cons nat a l) m v", "pi m : nat, vec nat m -> list nat"},
		// By induction: o added behind changes nothing.
		{"nat.rec@0 (fun a : nat => eq nat (plus a o) a) (refl nat o) (fun a : nat => fun h : eq nat (plus a o) a => eq.rec@0 nat (plus a o) (fun z : nat => fun r : eq nat (plus a o) z => eq nat (s (plus a o)) (s z)) (refl nat (s (plus a o))) a h)", "pi a : nat, eq nat (plus a o) a"},
	} {
		x, a := under(t, c.term, nil), under(t, c.of, nil)
		if left, err := infer.Check(e, nil, x, a, plenty); left <= 0 || err != nil {
			t.Errorf("%s is of %s: %d, %v", c.term, c.of, left, err)
		}
		if number := agreeOn(t, e, nil, x, a, plenty); number != api.OK {
			t.Errorf("%s is of %s: %v", c.term, c.of, number)
		}
		agree(t, e, nil, x, plenty)
	}
}
