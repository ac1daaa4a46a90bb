package spine_test

import (
	"math"
	"testing"

	"vademecum/api"
	"vademecum/spine"
	"vademecum/term"
)

// told holds a large term against the one that it should be.
func told(t *testing.T, what string, got, want *api.Term) {
	t.Helper()
	if !term.Same(got, want) {
		t.Error(what + ": not the same")
	}
}

// chain is a term of so many nodes, an odd number, none of them shared: an application of f.
func chain(nodes int) *api.Term {
	t := constant("f")
	for i := range nodes / 2 {
		t = app(t, variable(i))
	}
	return t
}

// products is a term of so many nodes, an odd number, none of them shared: products around a sort.
func products(nodes int) *api.Term {
	t := sort(0)
	for i := range nodes / 2 {
		t = pi(variable(i), t)
	}
	return t
}

// Terms of as many nodes as there may be, and more: rows as long as they are nested deep.
func TestP12_1Large(t *testing.T) {
	for _, nodes := range []int{2997, 2999, 3001, 3003, 20001, 1<<17 - 1, 1<<17 + 1, 1 << 18, 1 << 19} {
		n := nodes / 2
		f, args := spine.Head(chain(nodes))
		told(t, "head", f, constant("f"))
		parts, behind := spine.Pis(products(nodes), math.MaxInt)
		told(t, "behind", behind, sort(0))
		if len(args) != n || len(parts) != n {
			t.Fatalf("%d nodes: %d arguments, %d products", nodes, len(args), len(parts))
		}
		for i := range n {
			if *args[i] != *variable(i) || *parts[i] != *variable(n - 1 - i) {
				t.Fatalf("%d nodes: argument, product %d: %s%s", nodes, i, dump(args[i]), dump(parts[i]))
			}
		}
		told(t, "apply", spine.Apply(f, args...), chain(nodes))
		told(t, "pi", spine.Pi(parts, behind), products(nodes))
		half, rest := spine.Pis(products(nodes), n/2)
		told(t, "half", rest, products(nodes-2*(n/2)))
		if len(half) != n/2 {
			t.Errorf("%d of %d", len(half), n/2)
		}
		x := spine.Lam(parts, behind)
		for x.Kind == api.TLam {
			x.Kind, x = api.TPi, x.B
		}
		if *x != *sort(0) {
			t.Error("lam")
		}
	}
}

// An answer of up to MaxNodes nodes shares none of them within itself, wherever they come from.
func TestP12_2NodesAtTheLimit(t *testing.T) {
	// 3000 nodes, many of which are shared, the last ones too.
	two := app(variable(5), variable(6))
	applied, product := variable(7), variable(7)
	for range 749 {
		applied, product = app(applied, two), pi(two, product)
	}
	applied, product = let(sort(0), sort(0), applied), let(sort(0), sort(0), product)
	for what, x := range map[string]*api.Term{
		"of one":    spine.Apply(applied),
		"of more":   spine.Apply(applied.C.A, two),
		"pi":        spine.Pi(nil, product),
		"lam":       spine.Lam(list(two, sort(0)), product.C.B.B),
		"pi around": spine.Pi(list(two, product.C.B.B), two),
	} {
		if size := term.Size(x); size < api.MaxNodes-9 || size > api.MaxNodes || len(known(x)) != size {
			t.Errorf("%s: %d of %d nodes", what, len(known(x)), size)
		}
	}
	f, args := spine.Head(applied.C)
	parts, behind := spine.Pis(product.C, 3000)
	for i, l := range [][]*api.Term{append(args, f), append(parts, behind)} {
		if n := len(known(l...)); len(l) != 750 || n != 749*3+1 {
			t.Errorf("row %d: %d nodes of %d terms", i, n, len(l))
		}
	}
}

// shared is a term with so many nodes one above the other, each of which has the one below it more than once.
func shared(deep int, last *api.Term) *api.Term {
	t := last
	for i := range deep {
		switch i % 4 {
		case 0:
			t = app(t, t)
		case 1:
			t = pi(t, t)
		case 2:
			t = lam(t, t)
		default:
			t = let(t, t, t)
		}
	}
	return t
}

// What is shared can't be unfolded, but what is told of it can be.
func TestP12_1Shared(t *testing.T) {
	for _, deep := range []int{4, 12, 60, 4000} {
		x := shared(deep, constant("a"))
		f, args := spine.Head(app(app(x, x), x))
		told(t, "head", f, x)
		if len(args) != 2 {
			t.Fatalf("%d arguments", len(args))
		}
		told(t, "argument", args[1], x)
		parts, behind := spine.Pis(pi(x, pi(x, x)), 2)
		told(t, "behind", behind, x)
		if len(parts) != 2 {
			t.Fatalf("%d products", len(parts))
		}
		told(t, "product", parts[1], x)
		told(t, "apply", spine.Apply(x, x, x), app(app(x, x), x))
		told(t, "pi", spine.Pi(list(x, x), x), pi(x, pi(x, x)))
		told(t, "lam", spine.Lam(list(x, x), x), lam(x, lam(x, x)))
		if n := len(known(spine.Apply(x, x, x))); deep > 12 && n > api.MaxNodes+2*deep {
			t.Errorf("%d deep: %d nodes", deep, n)
		}
		for node := range known(append(args, f)...) {
			if known(x)[node] {
				t.Fatalf("%d deep: a node that was handed in is answered", deep)
			}
			if deep > 60 {
				break // as it takes long
			}
		}
	}
}

// As many parts nested in one another as are promised for, elsewhere than in a row.
func TestP12_1Deep(t *testing.T) {
	x := variable(0)
	for range 1 << 16 {
		x = lam(sort(0), app(constant("f"), x))
	}
	f, args := spine.Head(app(x, x))
	told(t, "head", f, x)
	told(t, "argument", args[0], x)
	told(t, "apply", spine.Apply(x, x), app(x, x))
	parts, behind := spine.Pis(pi(x, x), 1)
	told(t, "product", parts[0], x)
	told(t, "behind", behind, x)
}

// ring is a nest of so many nodes that comes back to itself, with the way to it, of so many more.
func ring(kind, way, round int) *api.Term {
	nodes := make([]api.Term, way+round)
	for i := range nodes {
		next := &nodes[way]
		if i+1 < len(nodes) {
			next = &nodes[i+1]
		}
		nodes[i] = api.Term{Kind: kind, A: variable(i), B: next}
		if kind == api.TApp {
			nodes[i].A, nodes[i].B = nodes[i].B, nodes[i].A
		}
	}
	return &nodes[0]
}

// A term that hangs on itself has no end; a call has.
func TestP12_1WithoutEnd(t *testing.T) {
	for _, c := range [][2]int{{0, 1}, {0, 2}, {1, 1}, {3, 5}, {0, 3000}, {100000, 7}, {5, 1<<17 - 1}, {0, 1 << 17}, {7, 1<<17 + 1}, {1 << 18, 1<<18 + 3}} {
		x := ring(api.TApp, c[0], c[1])
		f, args := spine.Head(x)
		if f == nil || f.Kind != api.TApp || len(args) < c[0]+c[1] {
			t.Errorf("%d: %d arguments", c, len(args))
		}
		x = ring(api.TPi, c[0], c[1])
		parts, behind := spine.Pis(x, math.MaxInt)
		if behind == nil || behind.Kind != api.TPi || len(parts) < c[0]+c[1] {
			t.Errorf("%d: %d products", c, len(parts))
		}
		for i, part := range parts {
			place := i
			if i >= c[0] {
				place = c[0] + (i-c[0])%c[1]
			}
			if *part != *variable(place) {
				t.Fatalf("%d: product %d: %s", c, i, dump(part))
			}
		}
		if parts, _ = spine.Pis(x, 1000); len(parts) != 1000 {
			t.Errorf("%d: %d products of 1000", c, len(parts))
		}
	}
	round := lam(sort(0), nil)
	round.B = app(round, round)
	told(t, "apply", spine.Apply(round, round), app(round, round))
	told(t, "pi", spine.Pi(list(round, round), round), pi(round, pi(round, round)))
	told(t, "lam", spine.Lam(list(round), round), lam(round, round))
	f, args := spine.Head(app(round, round))
	told(t, "head", f, round)
	told(t, "argument", args[0], round)
	for node := range known(append(args, f)...) {
		if known(round)[node] {
			t.Fatal("a node that was handed in is answered")
		}
	}
}
