package posit_test

import (
	"strconv"
	"testing"

	"vademecum/api"
	"vademecum/posit"
)

// products are so many products of a type around a term.
func products(n int, a, t *api.Term) *api.Term {
	for range n {
		t = pi(a, t)
	}
	return t
}

// vars are so many variables, falling by one each, down to from.
func vars(n, from int) []*api.Term {
	var l []*api.Term
	for i := range n {
		l = append(l, variable(from+n-1-i))
	}
	return l
}

// chain is a term of so many nodes, an odd number.
func chain(nodes int) *api.Term {
	t := constant("a")
	for range nodes / 2 {
		t = app(t, constant("a"))
	}
	return t
}

// A telescope has MaxArgs parts at most, a constructor's as many behind the parameters.
func TestP17_1Telescopes(t *testing.T) {
	a := constant("a")
	for parts := range 15 {
		for params := range 13 {
			what := strconv.Itoa(params) + " parameters, " + strconv.Itoa(parts) + " parts"
			x := products(parts, a, sort(0))
			if parts > 12 || parts < params {
				refused(t, what, "f", params, x, nil, api.ErrPos)
				continue
			}
			allowed(t, what, "f", params, x, nil, parts-params, 0)
			for args := range 15 {
				end := apply(constant("f"), append(vars(params, args), vars(parts-params, 0)...)...)
				if args < parts-params {
					// There are fewer variables.
					end = apply(constant("f"), vars(params, args)...)
					for range parts - params {
						end = app(end, a)
					}
				}
				l := []api.Con{{Name: "c", Type: products(params+args, a, end)}}
				if args > 12 {
					refused(t, what+", too many arguments", "f", params, x, l, api.ErrPos)
				} else {
					allowed(t, what+", "+strconv.Itoa(args)+" arguments", "f", params, x, l, parts-params, 0)
				}
			}
		}
	}
}

// An argument's own products are as many as there are: no telescope is named for them.
func TestP17_2ManyProducts(t *testing.T) {
	for _, n := range []int{11, 12, 13, 25, 1400} {
		x := pi(products(n, constant("a"), constant("f")), constant("f"))
		allowed(t, strconv.Itoa(n), "f", 0, sort(0), []api.Con{{Name: "c", Type: x}}, 0, 0)
		x = pi(products(n, constant("a"), pi(constant("f"), constant("f"))), constant("f"))
		refused(t, strconv.Itoa(n), "f", 0, sort(0), []api.Con{{Name: "c", Type: x}}, api.ErrPos)
	}
}

// ofNodes is a term of so many nodes, five at least, without variables around.
func ofNodes(nodes int) *api.Term {
	if nodes%2 == 0 {
		// A let has three parts, any other node none or two.
		return let(constant("a"), constant("a"), chain(nodes-3))
	}
	return chain(nodes)
}

// A term has MaxNodes nodes at most.
func TestP17_1Nodes(t *testing.T) {
	for nodes := 2994; nodes < 3006; nodes++ {
		what, part := strconv.Itoa(nodes), ofNodes(nodes-2)
		typ, con := pi(part, sort(0)), pi(part, constant("f"))
		l := []api.Con{{Name: "c", Type: con}, {Name: "d", Type: con}}
		if nodes > api.MaxNodes {
			refused(t, what, "f", 0, typ, nil, api.ErrForm)
			refused(t, what, "f", 0, sort(0), l, api.ErrForm)
			continue
		}
		allowed(t, what, "f", 0, typ, nil, 1, 0)
		allowed(t, what, "f", 0, sort(0), l, 0, 0)
		// With the parameter at its end a constructor's type has two nodes more.
		l = []api.Con{{Name: "c", Type: pi(part, app(constant("f"), variable(0)))}}
		if nodes+2 > api.MaxNodes {
			refused(t, what, "f", 1, typ, l, api.ErrForm)
		} else {
			allowed(t, what, "f", 1, typ, l, 0, 0)
		}
	}
}

// deep is as many parts in one another as are promised for.
const deep = 1 << 16

// Plain asks of whatever it is handed.
func TestP17_2Deep(t *testing.T) {
	f, a := constant("f"), constant("a")
	bad := products(deep-1, a, pi(f, f))
	if !posit.Plain("f", 0, 0, products(deep, a, f)) || posit.Plain("f", 0, 0, bad) || posit.Plain("f", 0, 0, products(deep, a, a)) {
		t.Error("products")
	}
	row := apply(f, vars(deep, 5)...)
	if !posit.Plain("f", deep, deep+5, row) || posit.Plain("f", deep, deep+4, row) || posit.Plain("f", deep+1, deep+5, row) || !posit.Plain("f", 0, 0, row) {
		t.Error("arguments")
	}
	row = app(row, f)
	if posit.Plain("f", deep, deep+5, row) || posit.Plain("f", 0, 0, row) {
		t.Error("arguments, the last one the family")
	}
	x := products(deep/2, a, apply(f, vars(deep/2, deep/2)...))
	if !posit.Plain("f", deep/2, deep/2, x) || posit.Plain("f", deep/2, deep/2+1, x) {
		t.Error("both")
	}
	nest := f
	for range deep {
		nest = lam(a, nest)
	}
	if posit.Plain("f", 0, 0, nest) || posit.Plain("f", 0, 0, pi(a, nest)) {
		t.Error("functions")
	}
	refused(t, "deep", "f", 0, sort(0), []api.Con{{Name: "c", Type: products(deep, a, f)}}, api.ErrForm)
	refused(t, "deep", "f", 0, products(deep, a, sort(0)), nil, api.ErrForm)
}

// What is shared can't be unfolded.
func TestP17_2Shared(t *testing.T) {
	f := constant("f")
	x := constant("a")
	for range 200 {
		x = app(x, x)
	}
	if !posit.Plain("f", 0, 0, pi(x, pi(x, apply(f, x, x)))) || posit.Plain("f", 1, 1, app(f, x)) || posit.Plain("f", 0, 0, pi(x, x)) {
		t.Error("shared")
	}
	// Up to MaxNodes sharing tells nothing.
	two := pi(constant("a"), f)
	refused(t, "shared", "f", 0, sort(0), []api.Con{{Name: "c", Type: pi(two, pi(pi(two, f), f))}}, api.ErrPos)
	allowed(t, "shared", "f", 0, sort(0), []api.Con{{Name: "c", Type: pi(two, pi(two, two))}, {Name: "d", Type: two}}, 0, 0)
}

// A term that hangs on itself has no end; a call has.
func TestP17_2WithoutEnd(t *testing.T) {
	f := constant("f")
	for _, kind := range []int{api.TPi, api.TLam, api.TApp, api.TLet} {
		for way := range 4 {
			x := &api.Term{Kind: kind, A: f, B: f}
			switch way {
			case 0:
				x.A = x
			case 1:
				x.B = x
			case 2:
				x.A, x.B = x, x
			case 3:
				x.C = x
			}
			if posit.Plain("f", 1, 1, x) || posit.Plain("f", 0, 0, pi(constant("a"), lam(x, f))) {
				t.Errorf("Kind %d, way %d: true", kind, way)
			}
			refused(t, "without an end", "f", 0, x, nil, api.ErrForm)
			refused(t, "without an end", "f", 0, pi(x, sort(0)), nil, api.ErrForm)
			refused(t, "without an end", "f", 0, sort(0), []api.Con{{Name: "c", Type: pi(x, f)}}, api.ErrForm)
		}
	}
}
