package shift_test

import (
	"fmt"
	"math"
	"strconv"
	"strings"
	"sync"
	"testing"

	"vademecum/api"
	"vademecum/shift"
	"vademecum/term"
)

func sort(n int) *api.Term { return &api.Term{Kind: api.TSort, N: n} }

func variable(n int) *api.Term { return &api.Term{Kind: api.TVar, N: n} }

func constant(name string) *api.Term { return &api.Term{Kind: api.TConst, Name: name} }

func rec(name string, n int) *api.Term { return &api.Term{Kind: api.TConst, Name: name, N: n} }

func pi(a, b *api.Term) *api.Term { return &api.Term{Kind: api.TPi, A: a, B: b} }

func lam(a, b *api.Term) *api.Term { return &api.Term{Kind: api.TLam, A: a, B: b} }

func let(a, b, c *api.Term) *api.Term { return &api.Term{Kind: api.TLet, A: a, B: b, C: c} }

func app(f *api.Term, l ...*api.Term) *api.Term {
	for _, x := range l {
		f = &api.Term{Kind: api.TApp, A: f, B: x}
	}
	return f
}

// dump is all that a term has, as a text: two texts are the same just where the terms are.
func dump(t *api.Term) string {
	var text strings.Builder
	var add func(t *api.Term)
	add = func(t *api.Term) {
		if t == nil {
			text.WriteString("-")
			return
		}
		text.WriteString("(" + strconv.Itoa(t.Kind) + " " + strconv.Itoa(t.N) + " " + strconv.Quote(t.Name))
		add(t.A)
		add(t.B)
		add(t.C)
		text.WriteString(")")
	}
	add(t)
	return text.String()
}

// copied is the same term, with no node of it, and none of its nodes shared.
func copied(t *api.Term) *api.Term {
	if t == nil {
		return nil
	}
	return &api.Term{Kind: t.Kind, N: t.N, Name: strings.Clone(t.Name), A: copied(t.A), B: copied(t.B), C: copied(t.C)}
}

// is holds a term against the one that it should be.
func is(t *testing.T, what string, got, want *api.Term) {
	t.Helper()
	if dump(got) != dump(want) {
		t.Errorf("%s: %s, want %s", what, dump(got), dump(want))
	}
}

// everywhere is a term with a variable in each part that there is: a under no binder, b under one, c under two.
func everywhere(a, b, c *api.Term) *api.Term {
	o := sort(0)
	return app(app(a, a), pi(a, b), lam(a, b), let(a, a, b), pi(o, lam(b, c)), pi(o, pi(b, c)), lam(o, pi(b, c)), lam(o, lam(b, c)),
		lam(o, let(b, b, c)), let(o, o, lam(b, c)), let(o, o, let(b, b, c)), let(pi(a, b), lam(a, b), app(b, b)), lam(let(a, a, b), let(b, b, c)))
}

// everywhereOf is everywhere of one that is told by how many binders are around.
func everywhereOf(x func(around int) *api.Term) *api.Term { return everywhere(x(0), x(1), x(2)) }

// below is everywhere with the variable of a number and the binders around.
func below(n int) *api.Term {
	return everywhereOf(func(around int) *api.Term { return variable(n + around) })
}

// same is everywhere with one term.
func same(t *api.Term) *api.Term { return everywhere(t, t, t) }

func TestP7_1Lift(t *testing.T) {
	for _, n := range []int{0, 1, 2, 3, 7, 99998, math.MaxInt - 20} {
		for _, by := range []int{0, 1, 2, 5, 17} {
			for _, from := range []int{0, 1, 2, 3, 4, 8, 100000, math.MaxInt - 20, math.MaxInt} {
				want := n
				if n >= from {
					want += by
				}
				is(t, fmt.Sprint("lift ", n, " by ", by, " from ", from), shift.Lift(below(n), by, from), below(want))
			}
		}
	}
	// What is bound within isn't moved, the innermost variable around is.
	is(t, "bound", shift.Lift(lam(sort(0), app(variable(0), variable(1))), 3, 0), lam(sort(0), app(variable(0), variable(4))))
	is(t, "bound by two", shift.Lift(lam(variable(0), pi(variable(0), app(variable(0), variable(1), variable(2)))), 3, 0),
		lam(variable(3), pi(variable(0), app(variable(0), variable(1), variable(5)))))
	is(t, "beside a binder", shift.Lift(app(lam(sort(0), variable(0)), variable(0)), 1, 0), app(lam(sort(0), variable(0)), variable(1)))
}

func TestP7_1LiftNothing(t *testing.T) {
	for _, x := range []*api.Term{sort(0), sort(9), constant("a"), constant("a.b"), rec("nat.rec", 0), rec("nat.rec", 9), app(constant("f"), sort(3)), lam(sort(0), variable(0)), let(sort(1), sort(0), pi(variable(0), variable(1)))} {
		for _, by := range []int{0, 1, 100} {
			is(t, "closed", shift.Lift(x, by, 0), x)
			is(t, "closed, within others", shift.Lift(same(x), by, 0), same(x))
		}
	}
}

func TestP7_1Put(t *testing.T) {
	u := app(constant("u"), variable(0), variable(4), lam(variable(1), app(variable(0), variable(1), variable(6))), let(variable(2), variable(3), app(variable(0), variable(3))), pi(variable(7), variable(8)))
	// u under so many binders, written out.
	under := func(k int) *api.Term {
		return app(constant("u"), variable(k), variable(k+4), lam(variable(k+1), app(variable(0), variable(k+1), variable(k+6))), let(variable(k+2), variable(k+3), app(variable(0), variable(k+3))), pi(variable(k+7), variable(k+8)))
	}
	for _, n := range []int{0, 1, 2, 3, 9, 99998, math.MaxInt - 20} {
		for _, at := range []int{0, 1, 2, 3, 4, 10, 100000, math.MaxInt - 20, math.MaxInt} {
			want := below(n)
			if n == at {
				want = everywhereOf(under)
			} else if n > at {
				want = below(n - 1)
			}
			is(t, fmt.Sprint("put into ", n, " at ", at), shift.Put(below(n), u, at), want)
		}
	}
	is(t, "the example", shift.Put(variable(0), u, 0), u)
	is(t, "bound", shift.Put(lam(sort(0), app(variable(0), variable(1), variable(2))), u, 0), lam(sort(0), app(variable(0), under(1), variable(1))))
	// What is put in isn't looked at again.
	is(t, "put in once", shift.Put(app(variable(0), variable(1)), app(variable(0), variable(1)), 0), app(app(variable(0), variable(1)), variable(0)))
	is(t, "put in once at 1", shift.Put(app(variable(0), variable(1), variable(2)), app(variable(1), variable(0)), 1), app(variable(0), app(variable(1), variable(0)), variable(1)))
}

func TestP7_1Bind(t *testing.T) {
	bound := everywhereOf(variable)
	for _, name := range []string{"a", "a.b", "nat.rec", "", "not a name", strings.Repeat("a", 2000)} {
		is(t, strconv.Quote(name), shift.Bind(same(constant(name)), name), bound)
		for _, other := range []string{"b", "A", "a.", "a.b.c", "nat", "nat.re", name + "x", " " + name} {
			is(t, "not "+other, shift.Bind(same(constant(name)), other), same(constant(name)))
			is(t, "of both "+other, shift.Bind(app(constant(name), constant(other)), other), app(constant(name), variable(0)))
		}
	}
	// A recursor into a sort above 0 isn't the constant of that name alone.
	is(t, "a recursor", shift.Bind(same(rec("nat.rec", 1)), "nat.rec"), same(rec("nat.rec", 1)))
	is(t, "two recursors", shift.Bind(app(rec("nat.rec", 9), rec("nat.rec", 0)), "nat.rec"), app(rec("nat.rec", 9), variable(0)))
	// Only a constant has a name.
	is(t, "a sort", shift.Bind(same(sort(0)), ""), same(sort(0)))
	for _, n := range []int{0, 1, 6, 100000} {
		is(t, "free", shift.Bind(below(n), "a"), below(n+1))
	}
	is(t, "bound within", shift.Bind(lam(constant("a"), app(variable(0), constant("a"), variable(1))), "a"), lam(variable(0), app(variable(0), variable(1), variable(2))))
}

func TestP7_1All(t *testing.T) {
	// Constants by where they are in the row, the first one ahead.
	row := []*api.Term{constant("c0"), constant("c1"), constant("c2"), constant("c3"), constant("c4")}
	for k := range row {
		l := row[:k]
		for n := range 9 {
			want := below(n - k)
			if n < k {
				want = same(row[k-1-n])
			}
			is(t, fmt.Sprint(k, " for ", n), shift.All(below(n), l...), want)
		}
	}
	u := func(k int) *api.Term { return lam(variable(k), app(variable(0), variable(k+1))) }
	v := func(k int) *api.Term { return let(variable(k+3), variable(k), variable(k+2)) }
	is(t, "lifted, the last", shift.All(below(0), u(0), v(0)), everywhereOf(v))
	is(t, "lifted, the one ahead", shift.All(below(1), u(0), v(0)), everywhereOf(u))
	is(t, "at once", shift.All(app(variable(0), variable(1), variable(2)), variable(1), variable(0)), app(variable(0), variable(1), variable(0)))
	is(t, "turned round", shift.All(app(variable(0), variable(1), variable(2)), variable(0), variable(1)), app(variable(1), variable(0), variable(0)))
	is(t, "into one", shift.All(app(variable(0), variable(1)), variable(7), variable(7)), app(variable(7), variable(7)))
	is(t, "of none", shift.All(everywhere(variable(0), variable(1), variable(5))), everywhere(variable(0), variable(1), variable(5)))
	is(t, "of a nil list", shift.All(variable(3), []*api.Term(nil)...), variable(3))
	is(t, "of an empty list", shift.All(variable(3), []*api.Term{}...), variable(3))
}

// A row that is longer than a telescope may be, all of it put in.
func TestP7_1AllOfMany(t *testing.T) {
	var l, want []*api.Term
	for i := range 500 {
		l = append(l, app(constant("c"+strconv.Itoa(i)), variable(i)))
	}
	var free []*api.Term
	for i := range 510 {
		free = append(free, variable(i+1))
		if i < 500 {
			want = append(want, app(constant("c"+strconv.Itoa(499-i)), variable(500-i)))
		} else {
			want = append(want, variable(i-499))
		}
	}
	is(t, "many", shift.All(lam(sort(0), app(variable(0), free...)), l...), lam(sort(0), app(variable(0), want...)))
}

// A variable that would be caught, had what is put in, or what is around, not been moved.
func TestP7_2Caught(t *testing.T) {
	o := sort(0)
	for what, row := range map[string][2]*api.Term{
		"put under a fun":         {shift.Put(lam(o, variable(1)), variable(0), 0), lam(o, variable(1))},
		"put under a pi":          {shift.Put(pi(o, variable(1)), variable(0), 0), pi(o, variable(1))},
		"put under a let":         {shift.Put(let(o, o, variable(1)), variable(0), 0), let(o, o, variable(1))},
		"put into types":          {shift.Put(let(variable(0), variable(0), o), variable(0), 0), let(variable(0), variable(0), o)},
		"put under two":           {shift.Put(lam(o, let(o, o, variable(2))), variable(0), 0), lam(o, let(o, o, variable(2)))},
		"put what binds":          {shift.Put(lam(o, variable(1)), lam(o, app(variable(0), variable(1))), 0), lam(o, lam(o, app(variable(0), variable(2))))},
		"put above one":           {shift.Put(lam(o, app(variable(1), variable(2), variable(3))), variable(0), 1), lam(o, app(variable(1), variable(1), variable(2)))},
		"lift into a fun":         {shift.Lift(lam(o, variable(1)), 1, 0), lam(o, variable(2))},
		"lift below":              {shift.Lift(lam(o, variable(1)), 1, 1), lam(o, variable(1))},
		"bind under a fun":        {shift.Bind(lam(o, constant("a")), "a"), lam(o, variable(1))},
		"bind under a let":        {shift.Bind(let(o, constant("a"), constant("a")), "a"), let(o, variable(0), variable(1))},
		"bind beside what is":     {shift.Bind(lam(o, app(constant("a"), variable(1))), "a"), lam(o, app(variable(1), variable(2)))},
		"all under a pi":          {shift.All(pi(variable(1), app(variable(1), variable(2))), variable(0), variable(1)), pi(variable(0), app(variable(2), variable(1)))},
		"all under a let in a pi": {shift.All(pi(o, let(o, variable(1), variable(3))), variable(0), o), pi(o, let(o, o, variable(2)))},
	} {
		is(t, what, row[0], row[1])
	}
}

// Numbers at the edges of an int go neither over nor around.
func TestP7_1Edges(t *testing.T) {
	o, a := sort(0), constant("a")
	least, most := math.MinInt, math.MaxInt
	for what, row := range map[string][2]*api.Term{
		"lift back":                 {shift.Lift(variable(3), -2, 0), variable(1)},
		"lift below none":           {shift.Lift(variable(0), -1, 0), variable(-1)},
		"lift from below none":      {shift.Lift(lam(o, app(variable(0), variable(1))), 1, -1), lam(o, app(variable(1), variable(2)))},
		"lift all":                  {shift.Lift(app(variable(least), variable(0)), 1, least), app(variable(least+1), variable(1))},
		"lift under a binder":       {shift.Lift(lam(o, app(variable(least), variable(least+1))), 1, least), lam(o, app(variable(least), variable(least+2)))},
		"lift the least":            {shift.Lift(lam(o, variable(least)), 1, 0), lam(o, variable(least))},
		"lift the most":             {shift.Lift(lam(o, variable(most)), -1, most), lam(o, variable(most))},
		"lift the most to the edge": {shift.Lift(variable(most-1), 1, most-1), variable(most)},
		"lift past what may be":     {shift.Lift(variable(100000), 1, 0), variable(100001)},
		"put at the most":           {shift.Put(lam(o, variable(least)), a, most), lam(o, variable(least))},
		"put at the most, none":     {shift.Put(lam(o, variable(most)), a, most), lam(o, variable(most))},
		"put at the most, itself":   {shift.Put(variable(most), a, most), a},
		"put at the least":          {shift.Put(app(variable(least), variable(least+1), variable(most)), a, least), app(a, variable(least), variable(most-1))},
		"put at the least, under":   {shift.Put(lam(o, app(variable(least), variable(least+1), variable(0))), a, least), lam(o, app(variable(least), a, variable(-1)))},
		"put at what is bound":      {shift.Put(lam(o, app(variable(0), variable(1))), variable(5), -1), lam(o, app(variable(6), variable(0)))},
		"put far below":             {shift.Put(variable(most), a, -1), variable(most - 1)},
		"bind beside the least":     {shift.Bind(lam(o, app(variable(least), variable(-1), variable(0), a)), "a"), lam(o, app(variable(least), variable(-1), variable(0), variable(1)))},
		"all beside the least":      {shift.All(lam(o, app(variable(least), variable(-1), variable(0), variable(most))), a), lam(o, app(variable(least), variable(-1), variable(0), variable(most-1)))},
		"put in of below none":      {shift.Put(lam(o, variable(1)), app(variable(-1), variable(least), variable(0)), 0), lam(o, app(variable(-1), variable(least), variable(1)))},
	} {
		is(t, what, row[0], row[1])
	}
}

func TestP7_1Nil(t *testing.T) {
	is(t, "lift", shift.Lift(nil, 1, 0), nil)
	is(t, "put", shift.Put(nil, variable(0), 0), nil)
	is(t, "put nil", shift.Put(app(variable(0), variable(1)), nil, 0), app(nil, variable(0)))
	is(t, "put nil nowhere", shift.Put(variable(1), nil, 3), variable(1))
	is(t, "bind", shift.Bind(nil, "a"), nil)
	is(t, "all", shift.All(nil, variable(0), nil), nil)
	is(t, "all of nil", shift.All(app(variable(1), variable(0), variable(2)), nil, variable(0)), app(nil, variable(0), variable(0)))
}

// Nodes that no term has are gone through as well, and keep what they have.
func TestP7_1WhatIsNot(t *testing.T) {
	for _, kind := range []int{-1, 0, 8, api.TSort, api.TVar, api.TConst, api.TApp, math.MinInt, math.MaxInt} {
		x := func(n, part int) *api.Term {
			return &api.Term{Kind: kind, N: n, Name: "x", A: variable(part), B: variable(part), C: variable(part)}
		}
		n := 5
		if kind == api.TVar {
			n = 7
		}
		is(t, "lift", shift.Lift(x(5, 3), 2, 0), x(n, 5))
		is(t, "bind", shift.Bind(x(4, 3), "b"), x(4+(n-5)/2, 4))
		is(t, "all", shift.All(x(6, 3), sort(0)), x(6-(n-5)/2, 2))
	}
	is(t, "without parts", shift.Lift(app(lam(nil, nil), let(nil, variable(0), nil), pi(variable(0), nil)), 1, 0), app(lam(nil, nil), let(nil, variable(1), nil), pi(variable(1), nil)))
	is(t, "with a last part alone", shift.Lift(app(&api.Term{C: variable(1)}, &api.Term{Kind: api.TLet, C: variable(1)}), 1, 0), app(&api.Term{C: variable(2)}, &api.Term{Kind: api.TLet, C: variable(2)}))
	is(t, "without a name", shift.Put(shift.Lift(app(constant(""), variable(0)), 1, 0), sort(0), 0), app(constant(""), variable(0)))
	is(t, "of a kind without it", shift.Put(&api.Term{Kind: api.TVar, A: variable(1)}, sort(1), 0), sort(1))
	is(t, "of a constant", shift.Bind(&api.Term{Kind: api.TConst, Name: "a", A: variable(1)}, "a"), variable(0))
}

// calls are all calls, each of some terms.
func calls(x, u *api.Term, l []*api.Term) []func() *api.Term {
	return []func() *api.Term{
		func() *api.Term { return shift.Lift(x, 0, 0) },
		func() *api.Term { return shift.Lift(x, 2, 1) },
		func() *api.Term { return shift.Put(x, u, 0) },
		func() *api.Term { return shift.Put(x, u, 1) },
		func() *api.Term { return shift.Put(x, x, 0) },
		func() *api.Term { return shift.Put(variable(0), u, 0) },
		func() *api.Term { return shift.Bind(x, "a") },
		func() *api.Term { return shift.All(x) },
		func() *api.Term { return shift.All(x, l...) },
		func() *api.Term { return shift.All(x, x, u, x) },
	}
}

// known is all nodes of some terms.
func known(l ...*api.Term) map[*api.Term]bool {
	all := map[*api.Term]bool{}
	var add func(t *api.Term)
	add = func(t *api.Term) {
		if t != nil && !all[t] {
			all[t] = true
			add(t.A)
			add(t.B)
			add(t.C)
		}
	}
	for _, t := range l {
		add(t)
	}
	return all
}

// What is answered is new, all of it, whatever is handed in, and stays as it was, whatever is done with other answers.
func TestP7_2AnswersAreNew(t *testing.T) {
	shared := lam(variable(0), variable(1))
	x := app(everywhere(variable(0), constant("a"), variable(3)), variable(1), shared, shared, lam(shared, shared))
	u := app(constant("u"), variable(1), shared, lam(sort(0), variable(0)))
	spare := []*api.Term{u, variable(2), constant("spare"), constant("room")}
	l := spare[:2]
	before := []string{dump(x), dump(u), dump(app(constant("l"), spare...))}
	handed := known(append([]*api.Term{x, u}, spare...)...)
	for i, call := range calls(x, u, l) {
		first, second := call(), call()
		want := dump(first)
		if dump(second) != want {
			t.Errorf("call %d: not the same twice", i)
		}
		nodes := known(first)
		if len(nodes) != term.Size(first) {
			t.Errorf("call %d: %d nodes of %d, some are shared", i, len(nodes), term.Size(first))
		}
		for node := range nodes {
			if handed[node] {
				t.Fatalf("call %d: a node that was handed in is answered", i)
			}
		}
		for node := range nodes {
			*node = api.Term{Kind: api.TConst, Name: "spoilt"}
		}
		if dump(second) != want || dump(call()) != want {
			t.Errorf("call %d: spoilt", i)
		}
	}
	for i, text := range []string{dump(x), dump(u), dump(app(constant("l"), spare...))} {
		if text != before[i] {
			t.Errorf("what was handed in is changed: %s", text)
		}
	}
}

// What was handed in isn't kept: it may be changed as soon as there is an answer.
func TestP7_2NotKept(t *testing.T) {
	x, u := everywhere(variable(0), constant("a"), variable(3)), app(constant("u"), variable(1))
	l := []*api.Term{copied(u), variable(2)}
	var answers []*api.Term
	var want []string
	for _, call := range calls(x, u, l) {
		answers = append(answers, call())
		want = append(want, dump(answers[len(answers)-1]))
	}
	for node := range known(x, u, l[0], l[1]) {
		*node = api.Term{Kind: api.TConst, Name: "spoilt"}
	}
	l[0], l[1] = nil, nil
	for i, answer := range answers {
		if dump(answer) != want[i] {
			t.Errorf("call %d: kept", i)
		}
	}
}

func TestP7_2AskedAtOnce(t *testing.T) {
	x, u := everywhere(variable(0), constant("a"), variable(3)), app(constant("u"), variable(1))
	l := []*api.Term{u, variable(2)}
	var want []string
	for _, call := range calls(x, u, l) {
		want = append(want, dump(call()))
	}
	var all sync.WaitGroup
	for range 8 {
		all.Go(func() {
			for range 50 {
				for i, call := range calls(x, u, l) {
					if dump(call()) != want[i] {
						t.Errorf("call %d: otherwise", i)
					}
				}
			}
		})
	}
	all.Wait()
}
