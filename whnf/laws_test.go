package whnf_test

import (
	"math/rand"
	"testing"

	"vademecum/api"
	"vademecum/env"
	"vademecum/shift"
	"vademecum/whnf"
)

// numeral is a number as a term.
func numeral(n int) *api.Term {
	t := constant("o")
	for range n {
		t = app(constant("s"), t)
	}
	return t
}

// numberOf is the number that a term comes to, head by head.
func numberOf(t *testing.T, e *env.Env, x *api.Term) int {
	t.Helper()
	for n, fuel := 0, 100*api.MaxFuel; ; n++ {
		y, left, err := whnf.Whnf(e, x, fuel)
		switch {
		case err != nil:
			t.Fatalf("%s: %v", shown(x), err)
		case y.Kind == api.TConst && y.Name == "o":
			return n
		case y.Kind != api.TApp || dump(y.A) != dump(constant("s")):
			t.Fatalf("%s: %s is no number", shown(x), shown(y))
		}
		x, fuel = y.B, left
	}
}

// Numbers come to numbers.
func TestP14_3Numbers(t *testing.T) {
	e := known(t)
	for a := range 7 {
		for b := range 7 {
			for name, want := range map[string]int{"plus": a + b, "times": a * b} {
				if got := numberOf(t, e, apply(constant(name), numeral(a), numeral(b))); got != want {
					t.Errorf("%s %d %d: %d", name, a, b, got)
				}
			}
		}
		if got := numberOf(t, e, app(constant("before"), numeral(a))); got != max(a-1, 0) {
			t.Errorf("before %d: %d", a, got)
		}
	}
	for _, c := range [][3]int{{2, 0, 1}, {2, 6, 64}, {3, 4, 81}, {5, 2, 25}, {0, 0, 1}, {0, 3, 0}, {1, 9, 1}} {
		if got := numberOf(t, e, apply(constant("power"), numeral(c[0]), numeral(c[1]))); got != c[2] {
			t.Errorf("%d to the power %d: %d", c[0], c[1], got)
		}
	}
}

// The recursor goes on into each argument that is Deep: of a list into one, of a tree into two, of a w into those that a function tells.
func TestP14_3DownTo(t *testing.T) {
	e := known(t)
	elements := of(t, "list.rec@0 u (fun l : list u => nat) o (fun x : u => fun l : list u => fun n : nat => s n)")
	leaves := of(t, "bin.rec@0 (fun x : bin => nat) one (fun x : bin => fun y : bin => fun m : nat => fun n : nat => plus m n)")
	nodes := of(t, "w.rec@0 (fun x : w => nat -> nat) (fun f : nat -> w => fun g : nat -> nat -> nat => nat.rec@0 (fun n : nat => nat) o (fun m : nat => fun y : nat => s (g two m)))")
	list, tree, w := of(t, "nil u"), constant("leaf"), of(t, "node v")
	for n := range 6 {
		for i, c := range []struct {
			x    *api.Term
			want int
		}{{app(elements, list), n}, {app(leaves, tree), 1 << n}, {apply(nodes, w, numeral(n)), n}} {
			if got := numberOf(t, e, c.x); got != c.want {
				t.Errorf("%d, %d: %d", n, i, got)
			}
		}
		list = apply(constant("cons"), variable(1), constant("a"), list)
		tree = apply(constant("fork"), tree, app(lam(constant("bin"), variable(0)), tree))
		w = app(constant("node"), lam(constant("nat"), shift.Lift(w, 1, 0)))
	}
}

// laws calls a test with random terms, and how much fuel they take, if they come to anything by 60.
func laws(t *testing.T, test func(e *env.Env, x, whole *api.Term, took int)) {
	e, _ := modelled(t)
	r := rand.New(rand.NewSource(3))
	m := maker{r, families(t)}
	tested := 0
	for range 8000 {
		x := m.term(1+r.Intn(5), 2)
		if whole, left, err := whnf.Whnf(e, x, 60); err == nil {
			test(e, x, whole, 60-left)
			if left < 58 {
				tested++
			}
		}
	}
	if tested < 300 {
		t.Errorf("only %d take more than two", tested)
	}
}

// Whnf is Step, as long as it tells true, and comes to what has no step.
func TestP14_2StepByStep(t *testing.T) {
	laws(t, func(e *env.Env, x, whole *api.Term, took int) {
		at, left := x, took
		for more := true; more; {
			var err error
			if at, left, more, err = whnf.Step(e, at, left); err != nil {
				t.Fatalf("%s: %v", shown(x), err)
			}
		}
		if dump(at) != dump(whole) || left != 0 {
			t.Errorf("%s: %s, %d left; at once %s", shown(x), shown(at), left, shown(whole))
		}
		if again, left, more, err := whnf.Step(e, whole, 0); dump(again) != dump(whole) || left != 0 || more || err != nil {
			t.Errorf("%s, then %s: %s, %v, %v", shown(x), shown(whole), shown(again), more, err)
		}
	})
}

// The variables around a term and the declarations that it doesn't name don't change what it comes to.
func TestP14_3Around(t *testing.T) {
	laws(t, func(e *env.Env, x, whole *api.Term, took int) {
		for _, c := range [][2]int{{1, 0}, {3, 1}, {5, 2}} {
			got, left, err := whnf.Whnf(e, shift.Lift(x, c[0], c[1]), took)
			if dump(got) != dump(shift.Lift(whole, c[0], c[1])) || left != 0 || err != nil {
				t.Errorf("%s by %d from %d: %s, %d, %v", shown(x), c[0], c[1], shown(got), left, err)
			}
		}
		// What stands for a variable that is stuck may be stuck itself.
		for at, u := range []*api.Term{constant("a"), app(variable(0), constant("two"))} {
			got, left, err := whnf.Whnf(e, shift.Put(x, u, at), took)
			if dump(got) != dump(shift.Put(whole, u, at)) || left != 0 || err != nil {
				t.Errorf("%s with %s: %s, %d, %v", shown(x), shown(u), shown(got), left, err)
			}
		}
		more := with(t, e, api.Decl{Kind: api.DDef, Name: "further", Type: sort(0), Value: constant("o")})
		if got, left, err := whnf.Whnf(more, x, took); dump(got) != dump(whole) || left != 0 || err != nil {
			t.Errorf("%s: %s, %d, %v", shown(x), shown(got), left, err)
		}
	})
}
