package conv_test

import (
	"math/rand"
	"testing"

	"vademecum/api"
	"vademecum/conv"
	"vademecum/env"
	"vademecum/shift"
	"vademecum/whnf"
)

// numeral is a number as a term.
func numeral(n int) *api.Term {
	t := constant("o")
	for range n {
		t = app(constant("s"), t)
	}
	return t
}

// Numbers come to the same just where they are the same.
func TestP15_2Numbers(t *testing.T) {
	e := known(t)
	for a := range 6 {
		for b := range 6 {
			for name, want := range map[string]int{"plus": a + b, "times": a * b} {
				for n := range 27 {
					x := apply(constant(name), numeral(a), numeral(b))
					if got, _, err := conv.Conv(e, x, numeral(n), n%2 == 0, api.MaxFuel); got != (n == want) || err != nil {
						t.Errorf("%s %d %d, %d: %v, %v", name, a, b, n, got, err)
					}
					if got, _, err := conv.Conv(e, numeral(n), x, n%2 == 1, api.MaxFuel); got != (n == want) || err != nil {
						t.Errorf("%d, %s %d %d: %v, %v", n, name, a, b, got, err)
					}
				}
			}
			x, y := apply(constant("times"), numeral(a), numeral(b)), apply(constant("times"), numeral(b), numeral(a))
			if got, _, err := conv.Conv(e, x, y, false, api.MaxFuel); !got || err != nil {
				t.Errorf("%d times %d: %v, %v", a, b, got, err)
			}
		}
	}
	for _, c := range [][3]int{{2, 0, 1}, {2, 5, 32}, {3, 3, 27}, {0, 3, 0}} {
		if got, _, err := conv.Conv(e, apply(constant("power"), numeral(c[0]), numeral(c[1])), numeral(c[2]), false, api.MaxFuel); !got || err != nil {
			t.Errorf("%d to the power %d: %v, %v", c[0], c[1], got, err)
		}
	}
}

// laws calls a test with random pairs, about which Conv tells something by 80 of fuel, and with what it tells.
func laws(t *testing.T, test func(e *env.Env, a, b *api.Term, so told)) {
	e := known(t)
	r := rand.New(rand.NewSource(4))
	m := maker{r, e, families(t)}
	counts := map[bool]int{}
	for range 6000 {
		a := m.term(1+r.Intn(4), 2)
		b := m.alike(a, 2)
		got, left, err := conv.Conv(e, a, b, false, 80)
		if err == nil {
			test(e, a, b, told{got, left, api.OK})
			counts[got]++
		}
	}
	if counts[true] < 300 || counts[false] < 300 {
		t.Errorf("only %v", counts)
	}
}

// tell is what Conv tells.
func tell(e *env.Env, a, b *api.Term, up bool, fuel int) told {
	got, left, err := conv.Conv(e, a, b, up, fuel)
	return told{got, left, numberOf(err)}
}

// It is all the same which one stands first, and what is the same needn't be less.
func TestP15_2BothWays(t *testing.T) {
	laws(t, func(e *env.Env, a, b *api.Term, so told) {
		if got := tell(e, b, a, false, 80); got != so {
			t.Errorf("%s, %s: %v, the other way round %v", shown(a), shown(b), so, got)
		}
		up, down := tell(e, a, b, true, 80), tell(e, b, a, true, 80)
		if (up.same && down.same) != so.same || so.same && (up != so || down != so) {
			t.Errorf("%s, %s: %v, up %v, down %v", shown(a), shown(b), so, up, down)
		}
	})
}

// What is around two terms doesn't change what is told of them, nor do variables around and declarations that they don't name.
func TestP15_2Around(t *testing.T) {
	laws(t, func(e *env.Env, a, b *api.Term, so told) {
		took := 80 - so.left
		for i, c := range []struct {
			around func(x *api.Term) *api.Term
			more   int
		}{
			{func(x *api.Term) *api.Term { return app(constant("a"), x) }, 1},
			{func(x *api.Term) *api.Term { return apply(variable(1), constant("one"), x) }, 2},
			{func(x *api.Term) *api.Term { return pi(sort(1), shift.Lift(x, 1, 0)) }, 2},
			{func(x *api.Term) *api.Term { return lam(x, shift.Lift(x, 1, 0)) }, 1},
			{func(x *api.Term) *api.Term { return lam(sort(0), app(constant("a"), shift.Lift(x, 1, 0))) }, 2},
		} {
			want := told{so.same, 0, api.OK}
			if took == 1 && so.same {
				// The whole is the same, too.
				c.more = 0
			}
			if got := tell(e, c.around(a), c.around(b), false, took+c.more); got != want {
				t.Errorf("%s, %s: %v; around them, %d: %v", shown(a), shown(b), so, i, got)
			}
		}
		for _, c := range [][2]int{{1, 0}, {3, 1}, {5, 2}} {
			if got := tell(e, shift.Lift(a, c[0], c[1]), shift.Lift(b, c[0], c[1]), false, 80); got != so {
				t.Errorf("%s, %s: %v; lifted by %d from %d: %v", shown(a), shown(b), so, c[0], c[1], got)
			}
		}
		if got := tell(defined(t, e, "further", constant("o")), a, b, false, 80); got != so {
			t.Errorf("%s, %s: %v; among more: %v", shown(a), shown(b), so, got)
		}
	})
}

// stuckAt tells what a term comes to, if that is a variable or a constant, applied.
func stuckAt(e *env.Env, x *api.Term) (*api.Term, bool) {
	whole, _, err := whnf.Whnf(e, x, 60)
	if err != nil {
		return nil, false
	}
	f := whole
	for f.Kind == api.TApp {
		f = f.A
	}
	return whole, f.Kind == api.TVar || f.Kind == api.TConst
}

// A term comes to the same as whatever it is reduced to, and as the function that applies it.
func TestP15_2Reduced(t *testing.T) {
	tested := 0
	laws(t, func(e *env.Env, a, _ *api.Term, _ told) {
		whole, ok := stuckAt(e, a)
		if !ok {
			return
		}
		tested++
		for next, fuel, more, err := whnf.Step(e, a, 60); ; next, fuel, more, err = whnf.Step(e, next, fuel) {
			if err != nil {
				t.Fatal(err)
			}
			if got := tell(e, a, next, false, api.MaxFuel); !got.same {
				t.Errorf("%s, %s: %v", shown(a), shown(next), got)
			}
			if !more {
				break
			}
		}
		for _, x := range []*api.Term{a, whole} {
			once := lam(sort(0), app(shift.Lift(x, 1, 0), variable(0)))
			twice := lam(sort(0), lam(sort(0), apply(shift.Lift(x, 2, 0), variable(1), variable(0))))
			for _, y := range []*api.Term{once, twice, lam(sort(0), app(shift.Lift(once, 1, 0), variable(0)))} {
				if got := tell(e, y, a, false, api.MaxFuel); !got.same {
					t.Errorf("%s, %s: %v", shown(y), shown(a), got)
				}
				if got := tell(e, app(constant("f"), whole), app(constant("f"), y), true, api.MaxFuel); !got.same {
					t.Errorf("%s, %s: %v", shown(whole), shown(y), got)
				}
			}
		}
	})
	if tested < 300 {
		t.Errorf("only %d", tested)
	}
}
