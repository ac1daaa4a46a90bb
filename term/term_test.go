package term_test

import (
	"fmt"
	"math"
	"slices"
	"strings"
	"sync"
	"testing"

	"vademecum/api"
	"vademecum/term"
)

func sort(n int) *api.Term { return &api.Term{Kind: api.TSort, N: n} }

func variable(n int) *api.Term { return &api.Term{Kind: api.TVar, N: n} }

func constant(name string) *api.Term { return &api.Term{Kind: api.TConst, Name: name} }

func rec(name string, n int) *api.Term { return &api.Term{Kind: api.TConst, Name: name, N: n} }

func pi(a, b *api.Term) *api.Term { return &api.Term{Kind: api.TPi, A: a, B: b} }

func lam(a, b *api.Term) *api.Term { return &api.Term{Kind: api.TLam, A: a, B: b} }

func app(a, b *api.Term) *api.Term { return &api.Term{Kind: api.TApp, A: a, B: b} }

func let(a, b, c *api.Term) *api.Term { return &api.Term{Kind: api.TLet, A: a, B: b, C: c} }

// long is a name of so many bytes.
func long(n int) string { return strings.Repeat("a", n) }

// chain is a term of so many nodes, an odd number, nested to the left.
func chain(nodes int) *api.Term {
	t := sort(0)
	for range nodes / 2 {
		t = app(t, sort(0))
	}
	return t
}

// shared is a term with so many nodes one above the other, each of which has the one below it as A and as B, and last at the bottom.
func shared(deep int, last *api.Term) *api.Term {
	t := last
	for range deep {
		t = app(t, t)
	}
	return t
}

// round is a term that hangs on itself.
func round() *api.Term {
	t := app(nil, sort(0))
	t.A = app(t, sort(1))
	return t
}

func TestP6_1IsName(t *testing.T) {
	for _, s := range []string{
		"a", "z", "A", "Z", "a0", "a9", "a_", "Z9_", "a.b", "a.B.c_1", "rec", "nat.rec", "a.rec.rec", "a.rec.b",
		"fun", "pi", "let", "in", "Type", "Type0", "Type10", "a.fun", long(24), long(11) + "." + long(12), "a.b.c.d.e.f.g.h.i.j.k.lm",
	} {
		if !term.IsName(s) {
			t.Errorf("%q is no name", s)
		}
	}
	for _, s := range []string{
		"", ".", "..", "a.", ".a", "a..b", "a.b.", "0", "9a", "_", "_a", "a.0", "a.b._", "a b", " a", "a ", "a\x00", "a-b",
		"a@", "a.b@1", "é", "aé", "a.é", "\xff", "a\xff", "ａ", long(25), long(12) + "." + long(12), long(24) + ".", long(2000),
	} {
		if term.IsName(s) {
			t.Errorf("%q is a name", s)
		}
	}
}

func TestP6_1IsNameByEachByte(t *testing.T) {
	for i := range 256 {
		s := string([]byte{byte(i)})
		letter := strings.Contains("abcdefghijklmnopqrstuvwxyzABCDEFGHIJKLMNOPQRSTUVWXYZ", s)
		behind := letter || strings.Contains("0123456789_", s)
		for text, want := range map[string]bool{s: letter, s + "a": letter, "a." + s: letter, "a" + s: behind, "a" + s + "b": behind || s == ".", "a.b" + s: behind} {
			if term.IsName(text) != want {
				t.Errorf("%q: %v", text, !want)
			}
		}
	}
}

func TestP6_1Rec(t *testing.T) {
	for s, want := range map[string]string{
		"nat.rec": "nat", "a.b.rec": "a.b", "a.rec.rec": "a.rec", "rec.rec": "rec", "fun.rec": "fun", "Type0.rec": "Type0",
		long(20) + ".rec": long(20), long(21) + ".rec": long(21), long(24) + ".rec": long(24),
	} {
		if family, ok := term.Rec(s); family != want || !ok {
			t.Errorf("%q: %q, %v", s, family, ok)
		}
	}
	for _, s := range []string{
		"", "a", "nat", "rec", ".rec", "..rec", "a..rec", "a.rec.", "nat.recs", "nat.Rec", "nat.rec ", "natrec", "a.rec.b", "nat_rec",
		"1.rec", "_.rec", "a.1.rec", "a b.rec", "\xff.rec", "é.rec", long(25) + ".rec", long(2000) + ".rec",
	} {
		if family, ok := term.Rec(s); family != "" || ok {
			t.Errorf("%q: %q, %v", s, family, ok)
		}
	}
}

// told are terms that are, each with what is to be told of it.
func told() []struct {
	t     *api.Term
	size  int
	free  int
	names string
} {
	return []struct {
		t     *api.Term
		size  int
		free  int
		names string
	}{
		{sort(0), 1, 0, ""},
		{sort(9), 1, 0, ""},
		{variable(0), 1, 1, ""},
		{variable(6), 1, 7, ""},
		{variable(100000), 1, 100001, ""},
		{constant("a"), 1, 0, "a"},
		{constant("a.b.c_1"), 1, 0, "a.b.c_1"},
		{constant(long(24)), 1, 0, long(24)},
		{constant("nat.rec"), 1, 0, "nat.rec"},
		{rec("nat.rec", 9), 1, 0, "nat.rec"},
		{rec(long(20)+".rec", 1), 1, 0, long(20) + ".rec"},
		{rec("fun.rec", 1), 1, 0, "fun.rec"},
		{constant("Type"), 1, 0, "Type"},
		{constant("Type10"), 1, 0, "Type10"},
		{constant("Typea"), 1, 0, "Typea"},
		{constant("Type_"), 1, 0, "Type_"},
		{constant("type0"), 1, 0, "type0"},
		{constant("Fun"), 1, 0, "Fun"},
		{constant("a.fun"), 1, 0, "a.fun"},
		{constant("let.in"), 1, 0, "let.in"},
		{pi(variable(0), variable(0)), 3, 1, ""},
		{pi(sort(0), variable(0)), 3, 0, ""},
		{pi(sort(0), variable(1)), 3, 1, ""},
		{pi(variable(4), variable(3)), 3, 5, ""},
		{lam(variable(0), variable(0)), 3, 1, ""},
		{lam(constant("b"), variable(0)), 3, 0, "b"},
		{lam(sort(0), variable(5)), 3, 5, ""},
		{app(variable(0), sort(9)), 3, 1, ""},
		{app(sort(9), variable(0)), 3, 1, ""},
		{app(variable(1), variable(0)), 3, 2, ""},
		{app(constant("b"), constant("a")), 3, 0, "a b"},
		{app(constant("a"), app(constant("a"), constant("a"))), 5, 0, "a"},
		{let(variable(0), sort(0), sort(0)), 4, 1, ""},
		{let(sort(0), variable(0), sort(0)), 4, 1, ""},
		{let(sort(0), sort(0), variable(0)), 4, 0, ""},
		{let(sort(0), sort(0), variable(1)), 4, 1, ""},
		{let(constant("c"), constant("b"), constant("a")), 4, 0, "a b c"},
		{pi(sort(0), pi(variable(0), variable(1))), 5, 0, ""},
		{lam(sort(0), lam(sort(0), let(variable(2), variable(1), variable(2)))), 8, 1, ""},
		{lam(pi(sort(0), variable(3)), variable(0)), 5, 3, ""},
		{app(rec("a.rec", 3), app(rec("a.rec", 4), constant("a"))), 5, 0, "a a.rec"},
		{app(app(constant("b"), constant("B")), app(constant("a_"), app(constant("a.b"), constant("a0")))), 9, 0, "B a.b a0 a_ b"},
	}
}

func TestP6_1Is(t *testing.T) {
	for i, row := range told() {
		if !term.Is(row.t) || term.Size(row.t) != row.size {
			t.Errorf("row %d: is %v, size %d", i, term.Is(row.t), term.Size(row.t))
		}
	}
}

func TestP6_2FreeHasNames(t *testing.T) {
	for i, row := range told() {
		if free := term.Free(row.t); free != row.free {
			t.Errorf("row %d: free %d, want %d", i, free, row.free)
		}
		names := strings.Fields(row.names)
		if got := term.Names(row.t); !slices.Equal(got, names) {
			t.Errorf("row %d: names %q, want %q", i, got, names)
		}
		for _, name := range []string{"", "a", "b", "c", "B", "a0", "a.b", "a.rec", "rec", ".rec", "nat", "nat.rec", "Type", "x", long(24), long(25)} {
			if term.Has(row.t, name) != slices.Contains(names, name) {
				t.Errorf("row %d: has %q: %v", i, name, term.Has(row.t, name))
			}
		}
	}
}

// wrong are terms that aren't, but for how many nodes they have.
func wrong() []*api.Term {
	some := sort(0)
	a := constant("a")
	return []*api.Term{
		{}, {Kind: -1}, {Kind: 8}, {Kind: math.MaxInt}, {Kind: math.MinInt}, {Name: "a"}, {A: a, B: a}, {Kind: 8, A: a, B: a, C: a},
		sort(-1), sort(10), sort(math.MinInt), sort(math.MaxInt), variable(-1), variable(100001), variable(math.MinInt), variable(math.MaxInt),
		constant(""), constant("1"), constant("a."), constant(".rec"), constant("a b"), constant(long(25)), constant(long(21) + ".rec"), rec(long(24)+".rec", 1),
		constant("fun"), constant("pi"), constant("let"), constant("in"), constant("Type0"), constant("Type5"), constant("Type9"),
		rec("a", 1), rec("a", -1), rec("rec", 1), rec("nat.recs", 1), rec("a.rec", -1), rec("a.rec", 10), rec("a.rec", math.MaxInt), rec("a.rec", math.MinInt),
		{Kind: api.TSort, Name: "a"}, {Kind: api.TSort, A: some}, {Kind: api.TSort, B: some}, {Kind: api.TSort, C: some},
		{Kind: api.TVar, Name: "a"}, {Kind: api.TVar, A: some}, {Kind: api.TVar, B: some}, {Kind: api.TVar, C: some},
		{Kind: api.TConst, Name: "a", A: some}, {Kind: api.TConst, Name: "a", B: some}, {Kind: api.TConst, Name: "a", C: some},
		pi(nil, a), pi(a, nil), pi(nil, nil), {Kind: api.TPi, N: 1, A: a, B: a}, {Kind: api.TPi, Name: "a", A: a, B: a}, {Kind: api.TPi, A: a, B: a, C: a},
		lam(nil, a), lam(a, nil), lam(nil, nil), {Kind: api.TLam, N: -1, A: a, B: a}, {Kind: api.TLam, Name: "a", A: a, B: a}, {Kind: api.TLam, A: a, B: a, C: a},
		app(nil, a), app(a, nil), app(nil, nil), {Kind: api.TApp, N: 1, A: a, B: a}, {Kind: api.TApp, Name: "a", A: a, B: a}, {Kind: api.TApp, A: a, B: a, C: a},
		let(nil, a, a), let(a, nil, a), let(a, a, nil), let(nil, nil, nil), {Kind: api.TLet, N: 1, A: a, B: a, C: a}, {Kind: api.TLet, Name: "a", A: a, B: a, C: a},
	}
}

// nothing holds of what is no term that nothing is told of it.
func nothing(t *testing.T, what string, x *api.Term) {
	t.Helper()
	if term.Is(x) {
		t.Errorf("%s is", what)
	}
	if term.Free(x) != 0 || term.Has(x, "a") || term.Has(x, "") || len(term.Names(x)) > 0 {
		t.Errorf("%s: free %d, has %v, %v, names %q", what, term.Free(x), term.Has(x, "a"), term.Has(x, ""), term.Names(x))
	}
}

func TestP6_1IsNot(t *testing.T) {
	nothing(t, "nil", nil)
	around := func(x *api.Term) []*api.Term {
		a, v := constant("a"), variable(3)
		return []*api.Term{x, pi(x, a), pi(v, x), lam(x, a), lam(v, x), app(x, a), app(a, x), let(x, a, v), let(v, x, a), let(v, a, x), app(a, app(v, app(x, a)))}
	}
	for i, x := range wrong() {
		for k, y := range around(x) {
			nothing(t, fmt.Sprintf("row %d, %d", i, k), y)
		}
	}
}

// grown hands over terms of rising sizes, each the one ahead of it with more around.
func grown(start *api.Term, more func(t *api.Term) *api.Term, each func(nodes int, t *api.Term)) {
	first := term.Size(start)
	step := term.Size(more(start)) - first
	x := start
	for nodes := first; nodes < api.MaxNodes+50; nodes += step {
		each(nodes, x)
		x = more(x)
	}
}

func TestP6_1SizeAtTheLimit(t *testing.T) {
	o, a := sort(0), constant("a")
	for i, more := range []func(x *api.Term) *api.Term{
		func(x *api.Term) *api.Term { return app(x, a) },
		func(x *api.Term) *api.Term { return app(a, x) },
		func(x *api.Term) *api.Term { return pi(x, a) },
		func(x *api.Term) *api.Term { return pi(a, x) },
		func(x *api.Term) *api.Term { return lam(x, a) },
		func(x *api.Term) *api.Term { return lam(a, x) },
		func(x *api.Term) *api.Term { return let(x, o, a) },
		func(x *api.Term) *api.Term { return let(o, x, a) },
		func(x *api.Term) *api.Term { return let(o, a, x) },
	} {
		for _, start := range []*api.Term{o, app(o, a), let(o, a, o)} {
			grown(start, more, func(nodes int, x *api.Term) {
				if term.Size(x) != min(nodes, api.MaxNodes+1) || term.Is(x) != (nodes <= api.MaxNodes) {
					t.Fatalf("shape %d, %d nodes: size %d, is %v", i, nodes, term.Size(x), term.Is(x))
				}
				if nodes > api.MaxNodes-20 && (term.Has(x, "a") || len(term.Names(x)) > 0) != (nodes <= api.MaxNodes) {
					t.Fatalf("shape %d, %d nodes: has %v, names %q", i, nodes, term.Has(x, "a"), term.Names(x))
				}
			})
		}
	}
}

// The greatest variable is found, and the binders around are counted, as deep as a term may go.
func TestP6_2FreeAtTheLimit(t *testing.T) {
	for _, more := range []func(x *api.Term) *api.Term{
		func(x *api.Term) *api.Term { return pi(sort(0), x) },
		func(x *api.Term) *api.Term { return lam(sort(0), x) },
		func(x *api.Term) *api.Term { return let(sort(0), sort(0), x) },
	} {
		binders := 0
		grown(variable(1000), more, func(nodes int, x *api.Term) {
			want := max(1001-binders, 0)
			if nodes > api.MaxNodes {
				want = 0
			}
			if term.Free(x) != want {
				t.Fatalf("%d binders: free %d, want %d", binders, term.Free(x), want)
			}
			binders++
		})
	}
}

// All that is there counts, also where a Kind has no such part.
func TestP6_1SizeOfWhatIsNot(t *testing.T) {
	a := constant("a")
	for i, row := range []struct {
		t    *api.Term
		size int
	}{
		{nil, 0}, {&api.Term{}, 1}, {&api.Term{Kind: 99}, 1}, {app(nil, nil), 1}, {app(nil, a), 2}, {pi(a, nil), 2}, {let(a, nil, a), 3},
		{&api.Term{Kind: api.TSort, A: a}, 2}, {&api.Term{Kind: api.TApp, A: a, B: a, C: app(a, a)}, 6}, {&api.Term{A: a, B: a, C: a}, 4},
	} {
		if term.Size(row.t) != row.size {
			t.Errorf("row %d: size %d, want %d", i, term.Size(row.t), row.size)
		}
	}
}

func TestP6_1Same(t *testing.T) {
	var terms []*api.Term
	for _, row := range told() {
		terms = append(terms, row.t)
	}
	terms = append(append(terms, nil), wrong()...)
	for i, a := range terms {
		for k, b := range terms {
			if term.Same(a, b) != (i == k) {
				t.Errorf("rows %d, %d: %v", i, k, term.Same(a, b))
			}
			if term.Same(app(a, b), app(copied(b), copied(a))) != (i == k) || term.Same(let(a, b, nil), let(a, b, a)) != (a == nil) {
				t.Errorf("rows %d, %d, within others", i, k)
			}
		}
		if !term.Same(a, copied(a)) || !term.Same(let(a, a, a), let(a, copied(a), copied(a))) {
			t.Errorf("row %d isn't the same as its copy", i)
		}
	}
}

// A term that is as large as one may be, and larger, isn't the same as one that differs in one place, wherever that is.
func TestP6_1SameByOnePlace(t *testing.T) {
	for _, size := range []int{2999, 3001, 9001} {
		x, y := chain(size), copied(chain(size))
		if !term.Same(x, y) {
			t.Fatalf("%d nodes aren't the same", size)
		}
		place := 0
		for at := y; at.A != nil; at = at.A {
			if place++; place%37 != 1 && at.A.A != nil {
				continue
			}
			at.B.N++
			if term.Same(x, y) || term.Same(y, x) {
				t.Fatalf("%d nodes: a place isn't looked at", size)
			}
			at.B.N--
		}
	}
}

// What is shared is told by what it says, not by where it lies, and doesn't have to be unfolded.
func TestP6_1Shared(t *testing.T) {
	for deep := range 12 {
		x := shared(deep, constant("a"))
		if !term.Same(x, copied(x)) || term.Size(x) != min(2<<deep-1, api.MaxNodes+1) || term.Is(x) != (2<<deep-1 <= api.MaxNodes) {
			t.Errorf("%d deep: size %d, is %v", deep, term.Size(x), term.Is(x))
		}
	}
	for _, deep := range []int{60, 5000} {
		x, y := shared(deep, constant("a")), shared(deep, constant("a"))
		if term.Size(x) != api.MaxNodes+1 {
			t.Errorf("size %d", term.Size(x))
		}
		nothing(t, "shared", x)
		if !term.Same(x, y) || term.Same(x, shared(deep, constant("b"))) || term.Same(x, shared(deep+1, constant("a"))) || term.Same(shared(deep-1, constant("a")), y) {
			t.Error("same")
		}
	}
}

// Two ways to share the same: of one a node is there once at each depth, of the other twice.
func TestP6_1SharedOtherwise(t *testing.T) {
	twice := func(last *api.Term) *api.Term {
		a, b := constant("a"), last
		for range 60 {
			a, b = app(a, b), app(b, a)
		}
		return app(a, b)
	}
	x := shared(61, constant("a"))
	if !term.Same(x, twice(constant("a"))) || !term.Same(twice(constant("a")), x) || !term.Same(twice(constant("a")), twice(constant("a"))) {
		t.Error("not the same")
	}
	if term.Same(x, twice(constant("b"))) || term.Same(twice(constant("b")), x) || term.Same(twice(constant("a")), twice(constant("b"))) {
		t.Error("the same")
	}
}

// As many nodes nested in one another as are promised for.
func TestP6_1Deep(t *testing.T) {
	for _, nodes := range []int{1<<17 - 1, 1<<20 - 1} {
		x, y := chain(nodes), chain(nodes)
		if !term.Same(x, y) || term.Same(x, chain(nodes-2)) || term.Size(x) != api.MaxNodes+1 {
			t.Errorf("%d nodes", nodes)
		}
		nothing(t, "deep", x)
	}
}

func TestP6_1WithoutEnd(t *testing.T) {
	x, y := round(), round()
	if term.Size(x) != api.MaxNodes+1 || !term.Same(x, x) || !term.Same(x, y) || term.Same(x, x.A) || term.Same(x, chain(101)) {
		t.Error("without end")
	}
	nothing(t, "without end", x)
}

// copied is the same term, with no node of it, and none of its nodes shared.
func copied(t *api.Term) *api.Term {
	if t == nil {
		return nil
	}
	return &api.Term{Kind: t.Kind, N: t.N, Name: strings.Clone(t.Name), A: copied(t.A), B: copied(t.B), C: copied(t.C)}
}

func TestP6_2NamesAreNew(t *testing.T) {
	x := app(app(constant("b"), constant("a")), app(constant("b"), constant("c")))
	first := term.Names(x)
	second := term.Names(x)
	for i := range first[:cap(first)] {
		first[:cap(first)][i] = "spoilt"
	}
	if !slices.Equal(second, []string{"a", "b", "c"}) || !slices.Equal(term.Names(x), second) {
		t.Errorf("names %q, %q", second, term.Names(x))
	}
}

func TestP6_2NamesOfMany(t *testing.T) {
	x := constant("n0")
	want := []string{"n0"}
	for i := 1; i < 1500; i++ {
		name := fmt.Sprint("n", i*7%1500)
		x = app(x, constant(name))
		want = append(want, name)
	}
	slices.Sort(want)
	if !slices.Equal(term.Names(x), want) {
		t.Errorf("%d names, want %d", len(term.Names(x)), len(want))
	}
	for _, name := range want {
		if !term.Has(x, name) {
			t.Errorf("hasn't %s", name)
		}
	}
}

// What is said stays as it was said, whoever asks about it, and as often as they do.
func TestP6_3AskedAtOnce(t *testing.T) {
	// The identity of all types, and what it is applied to.
	x := app(lam(sort(0), lam(variable(0), variable(0))), constant("nat"))
	before := copied(x)
	var all sync.WaitGroup
	for range 8 {
		all.Go(func() {
			for range 200 {
				if !term.Is(x) || term.Size(x) != 7 || term.Free(x) != 0 || !term.Has(x, "nat") || !slices.Equal(term.Names(x), []string{"nat"}) || !term.Same(x, before) {
					t.Error("told otherwise")
				}
			}
		})
	}
	all.Wait()
	if dump(x) != dump(before) {
		t.Error("changed")
	}
}
