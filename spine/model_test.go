package spine_test

import (
	"fmt"
	"math/rand"
	"testing"

	"vademecum/api"
	"vademecum/spine"
	"vademecum/term"
)

// modelHead is Head told another way: by what is within the outermost application.
func modelHead(t *api.Term) (*api.Term, []*api.Term) {
	if t.Kind != api.TApp {
		return t, nil
	}
	f, l := modelHead(t.A)
	return f, append(l, t.B)
}

// modelApply is Apply told another way: the last one is applied to last.
func modelApply(f *api.Term, l []*api.Term) *api.Term {
	if len(l) == 0 {
		return f
	}
	return app(modelApply(f, l[:len(l)-1]), l[len(l)-1])
}

// modelPis is Pis told another way.
func modelPis(t *api.Term, most int) ([]*api.Term, *api.Term) {
	if most <= 0 || t.Kind != api.TPi {
		return nil, t
	}
	l, b := modelPis(t.B, most-1)
	return append(list(t.A), l...), b
}

// modelAround is Pi and Lam told another way: the first one is outermost.
func modelAround(kind int, l []*api.Term, t *api.Term) *api.Term {
	if len(l) == 0 {
		return t
	}
	return &api.Term{Kind: kind, A: l[0], B: modelAround(kind, l[1:], t)}
}

// random is a term of so many nodes at most; now and then it shares a node.
func random(r *rand.Rand, nodes int) *api.Term {
	if nodes < 3 || r.Intn(8) == 0 {
		switch r.Intn(4) {
		case 0:
			return sort(r.Intn(10))
		case 1:
			return variable(r.Intn(6))
		case 2:
			return rec("nat.rec", r.Intn(10))
		}
		return constant([]string{"a", "b", "a.b", "A_0"}[r.Intn(4)])
	}
	if nodes > 3 && r.Intn(6) == 0 {
		return let(random(r, (nodes-1)/3), random(r, (nodes-1)/3), random(r, (nodes-1)/3))
	}
	// Rows are longer, if the nest is on the greater side.
	left := 1 + r.Intn(nodes-2)
	kind := []int{api.TPi, api.TPi, api.TLam, api.TApp, api.TApp}[r.Intn(5)]
	if few := 1 + r.Intn(min(nodes-2, 4)); kind == api.TPi && r.Intn(3) > 0 {
		left = few
	} else if kind == api.TApp && r.Intn(3) > 0 {
		left = nodes - 1 - few
	}
	a, b := random(r, left), random(r, nodes-1-left)
	if r.Intn(6) == 0 && left < nodes/2 {
		b = a
	}
	return &api.Term{Kind: kind, A: a, B: b}
}

// agrees holds all that is told of a term and a row against the model.
func agrees(t *testing.T, x *api.Term, l []*api.Term) {
	t.Helper()
	before := dump(x) + dump(l...)
	f, args := spine.Head(x)
	wantF, wantArgs := modelHead(x)
	is(t, "head", f, wantF)
	are(t, "arguments", args, wantArgs)
	is(t, "apply", spine.Apply(x, l...), modelApply(x, l))
	is(t, "pi", spine.Pi(l, x), modelAround(api.TPi, l, x))
	is(t, "lam", spine.Lam(l, x), modelAround(api.TLam, l, x))
	for most := -1; most < 9; most++ {
		parts, behind := spine.Pis(x, most)
		wantParts, wantBehind := modelPis(x, most)
		are(t, fmt.Sprint("pis, most ", most), parts, wantParts)
		is(t, fmt.Sprint("behind, most ", most), behind, wantBehind)
	}
	if dump(x)+dump(l...) != before {
		t.Errorf("%s is changed", before)
	}
}

// obeys tells whether rows and nests come out of one another again.
func obeys(t *testing.T, x *api.Term, l []*api.Term) {
	t.Helper()
	f, args := spine.Head(x)
	is(t, "applied again", spine.Apply(f, args...), x)
	g, more := spine.Head(spine.Apply(x, l...))
	is(t, "the head of more", g, f)
	are(t, "more arguments", more, append(args, l...))
	for most := range 6 {
		parts, behind := spine.Pis(x, most)
		is(t, "pis again", spine.Pi(parts, behind), x)
		all, _ := spine.Pis(x, 1000000)
		rest, _ := spine.Pis(behind, 1000000)
		are(t, "all pis", append(parts, rest...), all)
	}
	parts, behind := spine.Pis(spine.Pi(l, x), len(l))
	are(t, "a row", parts, l)
	is(t, "what it was around", behind, x)
	parts, behind = spine.Pis(spine.Lam(l, x), len(l))
	if len(l) > 0 && len(parts) > 0 || len(l) > 0 && behind.Kind != api.TLam {
		t.Error("a function is taken for a product")
	}
}

// row is a row of so many random terms at most.
func row(r *rand.Rand, most, nodes int) []*api.Term {
	l := make([]*api.Term, r.Intn(most+1))
	for i := range l {
		l[i] = random(r, 1+r.Intn(nodes))
		if i > 0 && r.Intn(5) == 0 {
			l[i] = l[i-1]
		}
	}
	return l
}

func TestP12_2Random(t *testing.T) {
	r := rand.New(rand.NewSource(12))
	for range 3000 {
		x, l := random(r, 1+r.Intn(50)), row(r, 6, 12)
		if !term.Is(x) {
			t.Fatalf("%s isn't", dump(x))
		}
		agrees(t, x, l)
		obeys(t, x, l)
	}
}

func TestP12_2RandomLarge(t *testing.T) {
	r := rand.New(rand.NewSource(1212))
	for range 40 {
		x, l := random(r, 8000), row(r, 20, 600)
		agrees(t, x, l)
		obeys(t, x, l)
	}
}

// every is each term of so many nodes at most, of few leaves.
func every(nodes int) []*api.Term {
	l := list(variable(0), constant("a"))
	for left := 1; left < nodes-1; left++ {
		for _, a := range every(left) {
			for _, b := range every(nodes - 1 - left) {
				l = append(l, pi(a, b), lam(a, b), app(a, b), let(a, b, variable(1)))
			}
		}
	}
	return l
}

func TestP12_1EverySmallTerm(t *testing.T) {
	for i, x := range every(5) {
		agrees(t, x, list(x, constant("b"), variable(i))[:i%4])
	}
}
