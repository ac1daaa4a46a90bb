package infer_test

import (
	"slices"
	"strconv"
	"sync"
	"testing"

	"vademecum/api"
	"vademecum/env"
	"vademecum/infer"
	"vademecum/term"
)

// sharing are terms with shared nodes, one for each way in which a type comes about, under the variables around.
func sharing(t *testing.T) []*api.Term {
	nat, v := constant("nat"), app(constant("s"), constant("y"))
	claim := app(constant("p"), v)
	return []*api.Term{
		sort(3),
		variable(0),
		variable(3),
		nat,
		constant("vcons"),
		rec("nat.rec", 2),
		rec("vec.rec", 0),
		pi(nat, nat),
		pi(claim, claim),
		lam(nat, nat),
		lam(claim, variable(0)),
		lam(claim, lam(claim, variable(0))),
		app(constant("d"), v),
		app(constant("d"), apply(constant("pair"), variable(2), v)),
		apply(constant("next"), v, app(constant("d"), v)),
		apply(constant("id"), nat, v),
		apply(constant("id"), pi(nat, nat), constant("inc"), v),
		app(constant("nil"), claim),
		app(constant("nil"), pi(claim, claim)),
		apply(rec("nat.rec", 0), constant("p")),
		apply(rec("nat.rec", 0), lam(nat, claim)),
		let(nat, v, app(constant("d"), variable(0))),
		let(nat, v, lam(app(constant("p"), variable(0)), variable(0))),
		let(nat, v, let(nat, variable(0), apply(constant("refl"), nat, variable(0)))),
		of(t, "fun x : many two => x v"),
		of(t, "let x : nat := v in fun z : nat => let q : nat := pair z x in d q"),
	}
}

// calls are what the calls tell of a term: its type, and its sort and what is left of fuel as a text.
func calls(e *env.Env, ctx []*api.Term, x *api.Term) (*api.Term, string) {
	a, left, err := infer.Infer(e, ctx, x, 400)
	n, rest, other := infer.Sort(e, ctx, x, 400)
	checked, third := infer.Check(e, ctx, x, a, 400)
	return a, strconv.Itoa(left) + " " + strconv.Itoa(n) + " " + strconv.Itoa(rest) + " " + strconv.Itoa(checked) + numberOf(err).Error() + numberOf(other).Error() + numberOf(third).Error()
}

// nodesOf are all nodes of some terms, with what they have.
func nodesOf(l ...*api.Term) map[*api.Term]api.Term {
	all := map[*api.Term]api.Term{}
	var add func(t *api.Term)
	add = func(t *api.Term) {
		if t == nil {
			return
		}
		if _, ok := all[t]; !ok {
			all[t] = *t
			add(t.A)
			add(t.B)
			add(t.C)
		}
	}
	for _, t := range l {
		add(t)
	}
	return all
}

func spoil(nodes map[*api.Term]api.Term) {
	for node := range nodes {
		*node = api.Term{Kind: api.TConst, Name: "spoilt"}
	}
}

// An answer is new, all of it.
func TestP16_2AnswersAreNew(t *testing.T) {
	e, ctx := known(t), context(t)
	before := e.List()
	for i := range sharing(t) {
		x := sharing(t)[i]
		in := nodesOf(append(slices.Clone(ctx), x)...)
		first, told := calls(e, ctx, x)
		second, _ := calls(e, ctx, x)
		want, nodes := dump(first), nodesOf(first)
		if first == nil || len(nodes) != term.Size(first) {
			t.Errorf("%s: %s: %d nodes, some are shared", shown(x), shown(first), len(nodes))
		}
		for node := range nodes {
			if _, ok := in[node]; ok {
				t.Fatalf("%s: a node that was handed in is answered", shown(x))
			}
		}
		spoil(nodes)
		for node, was := range in {
			if *node != was {
				t.Fatalf("%s: a node that was handed in is changed", want)
			}
		}
		if third, again := calls(e, ctx, x); dump(second) != want || dump(third) != want || again != told {
			t.Errorf("%s: %s, then %s and %s", shown(x), want, shown(second), shown(third))
		}
		// Nor is it kept.
		spoil(nodesOf(x))
		if dump(second) != want {
			t.Errorf("%s: kept", want)
		}
	}
	for i, d := range e.List() {
		if e.Len() != len(before) || !env.Same(d, before[i]) {
			t.Fatalf("%s is changed", d.Name)
		}
	}
}

// The list of what is around is as it was, with the spare room behind it.
func TestP16_2AroundStays(t *testing.T) {
	e := known(t)
	whole := append(context(t), sort(1), sort(2), sort(3), nil)
	whole = whole[:len(whole):len(whole)]
	before := slices.Clone(whole)
	ctx := whole[:len(around)]
	for _, x := range append(sharing(t), nested(9, variable(0), func(t *api.Term) *api.Term { return lam(constant("nat"), t) })) {
		nodes := nodesOf(whole...)
		calls(e, ctx, x)
		if !slices.Equal(whole, before) {
			t.Fatalf("%s: the list is changed", shown(x))
		}
		for node, was := range nodes {
			if *node != was {
				t.Fatalf("%s: a type around is changed", shown(x))
			}
		}
	}
}

// What was told isn't remembered.
func TestP16_2NothingIsKept(t *testing.T) {
	e, ctx := known(t), context(t)
	x := app(constant("d"), constant("one"))
	for _, c := range []struct {
		name string
		want api.Errno
	}{{"one", api.OK}, {"nat", api.ErrType}, {"y", api.OK}, {"nowhere", api.ErrName}, {"one", api.OK}} {
		x.B.Name = c.name
		a, _, err := infer.Infer(e, ctx, x, 50)
		if numberOf(err) != c.want || c.want == api.OK && dump(a) != dump(app(constant("p"), constant(c.name))) {
			t.Errorf("%s: %s, %v", c.name, shown(a), err)
		}
	}
	for range 2 {
		for i, a := range []*api.Term{sort(0), constant("nat"), sort(4)} {
			got, _, err := infer.Infer(e, []*api.Term{a}, variable(0), 50)
			if dump(got) != dump(a) || err != nil {
				t.Errorf("%d around: %s, %v", i, shown(got), err)
			}
		}
	}
	// Another Env has other declarations.
	for _, a := range []*api.Term{sort(0), constant("nat"), sort(4)} {
		got, _, err := infer.Infer(assumed(t, e, "other", a), nil, constant("other"), 50)
		if dump(got) != dump(a) || err != nil {
			t.Errorf("%s: %s, %v", shown(a), shown(got), err)
		}
	}
}

func TestP16_2AskedAtOnce(t *testing.T) {
	e, ctx, l := known(t), context(t), sharing(t)
	type told struct{ a, numbers string }
	tell := func(x *api.Term) told {
		a, numbers := calls(e, ctx, x)
		return told{dump(a), numbers}
	}
	var want []told
	for _, x := range l {
		want = append(want, tell(x))
	}
	var all sync.WaitGroup
	for range 8 {
		all.Go(func() {
			for range 10 {
				for i, x := range l {
					if got := tell(x); got != want[i] {
						t.Errorf("%s: %v, want %v", shown(x), got, want[i])
					}
				}
			}
		})
	}
	all.Wait()
}
