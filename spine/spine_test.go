package spine_test

import (
	"fmt"
	"math"
	"strconv"
	"strings"
	"sync"
	"testing"

	"vademecum/api"
	"vademecum/shift"
	"vademecum/spine"
	"vademecum/term"
)

func sort(n int) *api.Term { return &api.Term{Kind: api.TSort, N: n} }

func variable(n int) *api.Term { return &api.Term{Kind: api.TVar, N: n} }

func constant(name string) *api.Term { return &api.Term{Kind: api.TConst, Name: name} }

func rec(name string, n int) *api.Term { return &api.Term{Kind: api.TConst, Name: name, N: n} }

func pi(a, b *api.Term) *api.Term { return &api.Term{Kind: api.TPi, A: a, B: b} }

func lam(a, b *api.Term) *api.Term { return &api.Term{Kind: api.TLam, A: a, B: b} }

func app(a, b *api.Term) *api.Term { return &api.Term{Kind: api.TApp, A: a, B: b} }

func let(a, b, c *api.Term) *api.Term { return &api.Term{Kind: api.TLet, A: a, B: b, C: c} }

func list(l ...*api.Term) []*api.Term { return l }

// dump is all that terms have, as a text: two texts are the same just where the terms are.
func dump(l ...*api.Term) string {
	var text strings.Builder
	var add func(t *api.Term)
	add = func(t *api.Term) {
		if t == nil {
			text.WriteString("-")
			return
		}
		text.WriteString("(" + strconv.Itoa(t.Kind) + " " + strconv.Itoa(t.N) + " " + strconv.Quote(t.Name))
		add(t.A)
		add(t.B)
		add(t.C)
		text.WriteString(")")
	}
	for _, t := range l {
		add(t)
		text.WriteString(" ")
	}
	return text.String()
}

// is holds a term against the one that it should be.
func is(t *testing.T, what string, got, want *api.Term) {
	t.Helper()
	if dump(got) != dump(want) {
		t.Errorf("%s: %s, want %s", what, dump(got), dump(want))
	}
}

// are holds a row against the one that it should be.
func are(t *testing.T, what string, got, want []*api.Term) {
	t.Helper()
	if dump(got...) != dump(want...) || len(got) != len(want) {
		t.Errorf("%s: %s, want %s", what, dump(got...), dump(want...))
	}
}

// unapplied are terms of all Kinds but applications.
func unapplied() []*api.Term {
	a, v := constant("a"), variable(3)
	return list(sort(0), sort(9), v, constant("a.b"), rec("nat.rec", 4), pi(a, v), lam(a, app(v, a)), let(a, a, app(v, a)), pi(app(a, a), app(a, a)))
}

func TestP12_1Head(t *testing.T) {
	x, y, z := variable(7), app(constant("g"), sort(1)), lam(sort(0), app(variable(0), variable(1)))
	for i, f := range unapplied() {
		for _, c := range []struct{ t, l []*api.Term }{
			{list(f), nil},
			{list(app(f, x)), list(x)},
			{list(app(app(f, x), y)), list(x, y)},
			{list(app(app(app(f, y), x), z)), list(y, x, z)},
			{list(app(app(app(app(f, f), f), app(f, x)), x)), list(f, f, app(f, x), x)},
		} {
			head, l := spine.Head(c.t[0])
			is(t, fmt.Sprint("head, row ", i), head, f)
			are(t, fmt.Sprint("arguments, row ", i), l, c.l)
		}
	}
	// What an argument, a type or a body is applied to are no arguments of the whole.
	head, l := spine.Head(app(constant("f"), app(app(constant("g"), x), y)))
	is(t, "within an argument", head, constant("f"))
	are(t, "within an argument", l, list(app(app(constant("g"), x), y)))
}

func TestP12_1Apply(t *testing.T) {
	x, y, z := variable(7), app(constant("g"), sort(1)), lam(sort(0), app(variable(0), variable(1)))
	for i, f := range append(unapplied(), app(constant("f"), variable(0)), app(app(sort(0), sort(1)), sort(2))) {
		what := fmt.Sprint("row ", i)
		is(t, what, spine.Apply(f), f)
		is(t, what, spine.Apply(f, []*api.Term{}...), f)
		is(t, what, spine.Apply(f, x), app(f, x))
		is(t, what, spine.Apply(f, x, y), app(app(f, x), y))
		is(t, what, spine.Apply(f, y, x, z), app(app(app(f, y), x), z))
		is(t, what, spine.Apply(x, f, f, x), app(app(app(x, f), f), x))
	}
}

// behind are terms of all Kinds but TPi.
func behind() []*api.Term {
	a, v := constant("a"), variable(3)
	return list(sort(0), sort(9), v, constant("a.b"), rec("nat.rec", 4), app(a, pi(v, a)), app(pi(v, a), a), lam(a, pi(v, a)), let(a, a, pi(v, a)), let(pi(a, a), pi(a, a), a))
}

func TestP12_1Pis(t *testing.T) {
	row := list(constant("a"), app(constant("f"), variable(0)), pi(variable(1), variable(0)), sort(3))
	for i, b := range behind() {
		nests := list(pi(row[0], pi(row[1], pi(row[2], pi(row[3], b)))), pi(row[1], pi(row[2], pi(row[3], b))), pi(row[2], pi(row[3], b)), pi(row[3], b), b)
		for from, x := range nests {
			for _, most := range []int{math.MinInt, -3, -1, 0, 1, 2, 3, 4, 5, 12, 1 << 40, math.MaxInt} {
				what := fmt.Sprint("row ", i, " from ", from, ", most ", most)
				taken := min(max(most, 0), 4-from)
				l, rest := spine.Pis(x, most)
				are(t, what, l, row[from:from+taken])
				is(t, what, rest, nests[from+taken])
			}
		}
	}
}

func TestP12_1Around(t *testing.T) {
	a, v := constant("a"), app(variable(1), variable(0))
	for i, x := range append(behind(), pi(a, v), lam(a, v)) {
		what := fmt.Sprint("row ", i)
		is(t, what, spine.Pi(nil, x), x)
		is(t, what, spine.Lam(nil, x), x)
		is(t, what, spine.Pi(list(), x), x)
		is(t, what, spine.Lam(list(), x), x)
		is(t, what, spine.Pi(list(a), x), pi(a, x))
		is(t, what, spine.Lam(list(a), x), lam(a, x))
		is(t, what, spine.Pi(list(a, v, x), x), pi(a, pi(v, pi(x, x))))
		is(t, what, spine.Lam(list(v, x, a), x), lam(v, lam(x, lam(a, x))))
	}
}

func TestP12_1Vars(t *testing.T) {
	for _, n := range []int{math.MinInt, -100, -1, 0} {
		for _, from := range []int{math.MinInt, -1, 0, 1, math.MaxInt} {
			are(t, "none", spine.Vars(n, from), nil)
		}
	}
	are(t, "the example", spine.Vars(2, 0), list(variable(1), variable(0)))
	are(t, "down to 4", spine.Vars(3, 4), list(variable(6), variable(5), variable(4)))
	are(t, "one", spine.Vars(1, 100000), list(variable(100000)))
	are(t, "below 0", spine.Vars(3, -2), list(variable(0), variable(-1), variable(-2)))
	are(t, "the greatest", spine.Vars(2, math.MaxInt-1), list(variable(math.MaxInt), variable(math.MaxInt-1)))
	are(t, "the least", spine.Vars(2, math.MinInt), list(variable(math.MinInt+1), variable(math.MinInt)))
	for _, n := range []int{12, 3000, 100001, 1 << 17} {
		for i, x := range spine.Vars(n, 5) {
			if *x != (api.Term{Kind: api.TVar, N: n + 4 - i}) {
				t.Fatalf("%d of %d: %s", i, n, dump(x))
			}
		}
		if l := spine.Vars(n, 5); len(l) != n {
			t.Errorf("%d: %d", n, len(l))
		}
	}
	// More than there could be.
	for _, n := range []int{1 << 33, 1 << 50, math.MaxInt - 1, math.MaxInt} {
		are(t, "too many", spine.Vars(n, 0), nil)
		are(t, "too many", spine.Vars(n, math.MaxInt), nil)
	}
}

func TestP12_1Nil(t *testing.T) {
	a := constant("a")
	head, l := spine.Head(nil)
	is(t, "head", head, nil)
	are(t, "arguments", l, nil)
	head, l = spine.Head(app(app(nil, a), nil))
	is(t, "head", head, nil)
	are(t, "arguments", l, list(a, nil))
	is(t, "apply", spine.Apply(nil), nil)
	is(t, "apply to a term", spine.Apply(nil, a), app(nil, a))
	is(t, "apply to nil", spine.Apply(a, nil, a), app(app(a, nil), a))
	for _, most := range []int{-1, 0, 3} {
		l, rest := spine.Pis(nil, most)
		are(t, "pis", l, nil)
		is(t, "behind", rest, nil)
	}
	l, rest := spine.Pis(pi(nil, pi(a, nil)), 3)
	are(t, "pis", l, list(nil, a))
	is(t, "behind", rest, nil)
	is(t, "pi", spine.Pi(nil, nil), nil)
	is(t, "pi", spine.Pi(list(nil, a), nil), pi(nil, pi(a, nil)))
	is(t, "lam", spine.Lam(nil, nil), nil)
	is(t, "lam", spine.Lam(list(nil, a), nil), lam(nil, lam(a, nil)))
}

// Nodes that no term has are gone through as well, and keep what they have.
func TestP12_1WhatIsNot(t *testing.T) {
	for _, kind := range []int{math.MinInt, -1, 0, 8, api.TSort, api.TVar, api.TConst, math.MaxInt} {
		x := &api.Term{Kind: kind, N: -5, Name: "no name", A: app(sort(0), sort(-1)), B: pi(nil, nil), C: variable(-1)}
		head, l := spine.Head(app(x, x))
		is(t, "head", head, x)
		are(t, "arguments", l, list(x))
		l, rest := spine.Pis(pi(x, x), 9)
		are(t, "pis", l, list(x))
		is(t, "behind", rest, x)
		is(t, "apply", spine.Apply(x, x), app(x, x))
		is(t, "pi", spine.Pi(list(x), x), pi(x, x))
		is(t, "lam", spine.Lam(list(x), x), lam(x, x))
	}
	for _, x := range list(&api.Term{C: sort(1)}, &api.Term{B: sort(1)}, &api.Term{Kind: api.TLet, C: sort(1)}, &api.Term{Kind: api.TLam, B: sort(1)}, let(nil, nil, nil), lam(nil, nil)) {
		is(t, "without some parts", spine.Apply(x, x), app(x, x))
	}
	// Only what a Kind has is told of a node of a row.
	more := &api.Term{Kind: api.TApp, N: 3, Name: "more", A: sort(0), B: sort(1), C: sort(2)}
	head, l := spine.Head(more)
	is(t, "head", head, sort(0))
	are(t, "arguments", l, list(sort(1)))
	more.Kind = api.TPi
	l, rest := spine.Pis(more, 3)
	are(t, "pis", l, list(sort(0)))
	is(t, "behind", rest, sort(1))
}

// A row says what its nest does: variables are applied and put in as they are counted.
func TestP12_2Telescope(t *testing.T) {
	// pi A : Type0, x : A, y : A -> f A x y
	types := list(sort(0), variable(0), variable(1))
	whole := spine.Pi(types, spine.Apply(constant("f"), spine.Vars(3, 0)...))
	is(t, "a telescope", whole, pi(sort(0), pi(variable(0), pi(variable(1), app(app(app(constant("f"), variable(2)), variable(1)), variable(0))))))
	if term.Free(whole) != 0 {
		t.Error("a variable isn't bound")
	}
	l, end := spine.Pis(whole, 2)
	are(t, "its first parts", l, types[:2])
	is(t, "behind them", end, pi(variable(1), app(app(app(constant("f"), variable(2)), variable(1)), variable(0))))
	is(t, "functions instead", spine.Lam(l, end), lam(sort(0), lam(variable(0), end)))
	// Under two more.
	is(t, "lifted", shift.Lift(spine.Apply(constant("f"), spine.Vars(3, 0)...), 2, 0), spine.Apply(constant("f"), spine.Vars(3, 2)...))
	args := list(constant("a"), variable(4), app(constant("b"), variable(0)))
	is(t, "put in", shift.All(spine.Apply(constant("f"), spine.Vars(3, 0)...), args...), spine.Apply(constant("f"), args...))
}

// calls are all calls, each of some terms; what each answers, as one list of terms.
func calls(x *api.Term, l []*api.Term) []func() []*api.Term {
	ends := func(t *api.Term, l []*api.Term) []*api.Term { return append(list(t), l...) }
	return []func() []*api.Term{
		func() []*api.Term { return ends(spine.Head(x)) },
		func() []*api.Term { return ends(spine.Head(l[0])) },
		func() []*api.Term { return list(spine.Apply(x)) },
		func() []*api.Term { return list(spine.Apply(x, l...)) },
		func() []*api.Term { return list(spine.Apply(x, x, l[0], x)) },
		func() []*api.Term { m, b := spine.Pis(x, 9); return ends(b, m) },
		func() []*api.Term { m, b := spine.Pis(l[0], 9); return ends(b, m) },
		func() []*api.Term { m, b := spine.Pis(l[0], 1); return ends(b, m) },
		func() []*api.Term { m, b := spine.Pis(l[0], 0); return ends(b, m) },
		func() []*api.Term { return list(spine.Pi(nil, x)) },
		func() []*api.Term { return list(spine.Pi(l, x)) },
		func() []*api.Term { return list(spine.Pi(list(x, x), x)) },
		func() []*api.Term { return list(spine.Lam(nil, x)) },
		func() []*api.Term { return list(spine.Lam(l, x)) },
		func() []*api.Term { return list(spine.Lam(list(x, x), x)) },
		func() []*api.Term { return spine.Vars(5, 3) },
	}
}

// known is all nodes of some terms.
func known(l ...*api.Term) map[*api.Term]bool {
	all := map[*api.Term]bool{}
	var add func(t *api.Term)
	add = func(t *api.Term) {
		if t != nil && !all[t] {
			all[t] = true
			add(t.A)
			add(t.B)
			add(t.C)
		}
	}
	for _, t := range l {
		add(t)
	}
	return all
}

// handed is a term and a list with spare room, in which nodes are shared.
func handed() (x *api.Term, l, spare []*api.Term) {
	shared := lam(variable(0), app(variable(1), constant("a")))
	x = app(app(app(constant("f"), shared), let(shared, shared, shared)), shared)
	spare = list(pi(shared, pi(x, pi(shared, shared))), shared, constant("spare"), constant("room"))
	return x, spare[:2], spare
}

func TestP12_2AnswersAreNew(t *testing.T) {
	x, l, spare := handed()
	before := dump(x) + dump(spare...)
	in := known(append(list(x), spare...)...)
	for i, call := range calls(x, l) {
		first, second := call(), call()
		want := dump(first...)
		if dump(second...) != want {
			t.Errorf("call %d: not the same twice", i)
		}
		size := 0
		for _, x := range first {
			size += term.Size(x)
		}
		nodes := known(first...)
		if len(nodes) != size {
			t.Errorf("call %d: %d nodes of %d, some are shared", i, len(nodes), size)
		}
		for node := range nodes {
			if in[node] {
				t.Fatalf("call %d: a node that was handed in is answered", i)
			}
		}
		for node := range nodes {
			*node = api.Term{Kind: api.TConst, Name: "spoilt"}
		}
		clear(first)
		if dump(second...) != want || dump(call()...) != want {
			t.Errorf("call %d: spoilt", i)
		}
	}
	if dump(x)+dump(spare...) != before {
		t.Errorf("what was handed in is changed: %s%s", dump(x), dump(spare...))
	}
}

// The spare room behind a list is its own, too.
func TestP12_2SpareRoom(t *testing.T) {
	x, l, spare := handed()
	before := dump(x) + dump(spare...)
	for range 3 {
		_, args := spine.Head(x)
		parts, _ := spine.Pis(l[0], 2)
		for i, m := range [][]*api.Term{args, parts, spine.Vars(3, 0)} {
			m = append(m, x)
			m = m[:cap(m)]
			for j := range m {
				if i < 2 && m[j] != x && m[j] != nil && known(m[j])[x] {
					t.Fatal("what was handed in is answered")
				}
				m[j] = nil
			}
		}
	}
	if dump(x)+dump(spare...) != before {
		t.Error("changed")
	}
}

// What was handed in isn't kept: it may be changed as soon as there is an answer.
func TestP12_2NotKept(t *testing.T) {
	x, l, spare := handed()
	var answers [][]*api.Term
	var want []string
	for _, call := range calls(x, l) {
		answers = append(answers, call())
		want = append(want, dump(answers[len(answers)-1]...))
	}
	for node := range known(append(list(x), spare...)...) {
		*node = api.Term{Kind: api.TConst, Name: "spoilt"}
	}
	clear(spare)
	for i, answer := range answers {
		if dump(answer...) != want[i] {
			t.Errorf("call %d: kept", i)
		}
	}
}

func TestP12_2AskedAtOnce(t *testing.T) {
	x, l, _ := handed()
	var want []string
	for _, call := range calls(x, l) {
		want = append(want, dump(call()...))
	}
	var all sync.WaitGroup
	for range 8 {
		all.Go(func() {
			for range 50 {
				for i, call := range calls(x, l) {
					if dump(call()...) != want[i] {
						t.Errorf("call %d: otherwise", i)
					}
				}
			}
		})
	}
	all.Wait()
}

func Example() {
	f := spine.Apply(constant("f"), spine.Vars(2, 0)...)
	head, args := spine.Head(f)
	fmt.Println(head.Name, len(args), args[0].N, args[1].N)
	l, behind := spine.Pis(spine.Pi(list(constant("a"), constant("b")), f), 1)
	fmt.Println(len(l), l[0].Name, behind.Kind == api.TPi)
	// Output:
	// f 2 1 0
	// 1 a true
}
