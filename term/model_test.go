package term_test

import (
	"math"
	"math/rand"
	"regexp"
	"slices"
	"strconv"
	"strings"
	"testing"

	"vademecum/api"
	"vademecum/term"
)

var (
	aName    = regexp.MustCompile(`\A[a-zA-Z][a-zA-Z0-9_]*(\.[a-zA-Z][a-zA-Z0-9_]*)*\z`)
	aKeyword = regexp.MustCompile(`\A(fun|pi|let|in|Type[0-9])\z`)
)

// modelName is IsName told another way.
func modelName(s string) bool { return len(s) <= 24 && aName.MatchString(s) }

// modelRec is Rec told another way.
func modelRec(s string) (string, bool) {
	if len(s) > 4 && s[len(s)-4:] == ".rec" && modelName(s[:len(s)-4]) {
		return s[:len(s)-4], true
	}
	return "", false
}

// dump is all that a term has, as a text: two texts are the same just where the terms are.
func dump(t *api.Term) string {
	var text strings.Builder
	var add func(t *api.Term)
	add = func(t *api.Term) {
		if t == nil {
			text.WriteString("-")
			return
		}
		text.WriteString("(" + strconv.Itoa(t.Kind) + " " + strconv.Itoa(t.N) + " " + strconv.Quote(t.Name))
		add(t.A)
		add(t.B)
		add(t.C)
		text.WriteString(")")
	}
	add(t)
	return text.String()
}

// flat is all nodes of a term, from the left.
func flat(t *api.Term) []*api.Term {
	var l []*api.Term
	var add func(t *api.Term)
	add = func(t *api.Term) {
		if t != nil {
			l = append(l, t)
			add(t.A)
			add(t.B)
			add(t.C)
		}
	}
	add(t)
	return l
}

// modelIs is Is told another way: what each field of each node may be, by its Kind.
func modelIs(t *api.Term) bool {
	if t == nil {
		return false
	}
	l := flat(t)
	return len(l) <= 3000 && !slices.ContainsFunc(l, func(x *api.Term) bool { return !modelNode(x) })
}

func modelNode(t *api.Term) bool {
	parts := []string{1: "---", 2: "---", 3: "---", 4: "AB-", 5: "AB-", 6: "AB-", 7: "ABC"}
	if t.Kind < 1 || t.Kind > 7 {
		return false
	}
	for i, part := range []*api.Term{t.A, t.B, t.C} {
		if (part != nil) != (parts[t.Kind][i] != '-') {
			return false
		}
	}
	top := 0
	if t.Kind == 1 {
		top = 9
	}
	if t.Kind == 2 {
		top = 100000
	}
	if _, rec := modelRec(t.Name); rec && t.Kind == 3 {
		top = 9
	}
	named := modelName(t.Name) && !aKeyword.MatchString(t.Name)
	return t.N >= 0 && t.N <= top && (t.Kind == 3 && named || t.Kind != 3 && t.Name == "")
}

// closed tells whether all variables of a term are bound, with so many binders around it.
func closed(t *api.Term, around int) bool {
	switch t.Kind {
	case api.TVar:
		return t.N < around
	case api.TPi, api.TLam:
		return closed(t.A, around) && closed(t.B, around+1)
	case api.TApp:
		return closed(t.A, around) && closed(t.B, around)
	case api.TLet:
		return closed(t.A, around) && closed(t.B, around) && closed(t.C, around+1)
	}
	return true
}

// modelFree is Free told another way: the fewest binders with which all is bound.
func modelFree(t *api.Term) int {
	free := 0
	if modelIs(t) {
		for !closed(t, free) {
			free++
		}
	}
	return free
}

// modelNames is Names told another way.
func modelNames(t *api.Term) []string {
	names := []string{}
	if !modelIs(t) {
		return names
	}
	for _, x := range flat(t) {
		if x.Kind == api.TConst && !slices.Contains(names, x.Name) {
			names = append(names, x.Name)
		}
	}
	slices.SortFunc(names, strings.Compare)
	return names
}

// agrees holds all that is told of a term against the model.
func agrees(t *testing.T, x *api.Term) {
	t.Helper()
	before := dump(x)
	if got, want := term.Is(x), modelIs(x); got != want {
		t.Errorf("is %s: %v", before, got)
	}
	if got, want := term.Size(x), min(len(flat(x)), 3001); got != want {
		t.Errorf("size of %s: %d, want %d", before, got, want)
	}
	if got, want := term.Free(x), modelFree(x); got != want {
		t.Errorf("free of %s: %d, want %d", before, got, want)
	}
	names := modelNames(x)
	if got := term.Names(x); !slices.Equal(got, names) {
		t.Errorf("names of %s: %q, want %q", before, got, names)
	}
	for _, name := range []string{"", "a", "b", "a.b", "nat.rec", "z"} {
		if got, want := term.Has(x, name), slices.Contains(names, name); got != want {
			t.Errorf("%s has %q: %v", before, name, got)
		}
	}
	if dump(x) != before {
		t.Errorf("%s is changed to %s", before, dump(x))
	}
}

// Every text of a few bytes, by itself and ahead of an end that may make it too long.
func TestP6_1EveryShortName(t *testing.T) {
	texts := []string{""}
	for range 6 {
		var longer []string
		for _, s := range texts {
			for _, end := range []string{"", ".rec", long(19), "." + long(18), long(20) + ".rec"} {
				text := s + end
				if term.IsName(text) != modelName(text) {
					t.Fatalf("name %q: %v", text, term.IsName(text))
				}
				family, ok := term.Rec(text)
				wantFamily, wantOk := modelRec(text)
				if family != wantFamily || ok != wantOk {
					t.Fatalf("rec %q: %q, %v", text, family, ok)
				}
			}
			for _, b := range []string{"a", "Z", "0", "_", ".", "@", "\xff"} {
				longer = append(longer, s+b)
			}
		}
		texts = longer
	}
}

// Every node of fields at their edges.
func TestP6_1EveryNode(t *testing.T) {
	numbers := []int{math.MinInt, -1, 0, 1, 9, 10, 100000, 100001, math.MaxInt}
	names := []string{"", "a", "nat.rec", "rec", ".rec", "fun", "in", "Type3", "Type", "1", long(24), long(25), long(20) + ".rec", long(21) + ".rec"}
	parts := []*api.Term{nil, sort(0), constant("b"), sort(10)}
	for kind := -1; kind < 10; kind++ {
		for _, n := range numbers {
			for _, name := range names {
				for i := range 64 {
					x := &api.Term{Kind: kind, N: n, Name: name, A: parts[i%4], B: parts[i/4%4], C: parts[i/16]}
					if term.Is(x) != modelIs(x) {
						t.Fatalf("is %s: %v", dump(x), term.Is(x))
					}
				}
			}
		}
	}
}

// random is a term of so many nodes at most; now and then it shares a node.
func random(r *rand.Rand, nodes int) *api.Term {
	if nodes < 3 || r.Intn(8) == 0 {
		switch r.Intn(4) {
		case 0:
			return sort(r.Intn(10))
		case 1:
			return variable(r.Intn(6))
		case 2:
			return rec("nat.rec", r.Intn(10))
		}
		return constant([]string{"a", "b", "a.b", "A_0"}[r.Intn(4)])
	}
	if nodes > 3 && r.Intn(4) == 0 {
		return let(random(r, (nodes-1)/3), random(r, (nodes-1)/3), random(r, (nodes-1)/3))
	}
	left := 1 + r.Intn(nodes-2)
	a, b := random(r, left), random(r, nodes-1-left)
	if r.Intn(6) == 0 && left < nodes/2 {
		b = a
	}
	return &api.Term{Kind: []int{api.TPi, api.TLam, api.TApp}[r.Intn(3)], A: a, B: b}
}

// spoil changes one field of one node.
func spoil(r *rand.Rand, t *api.Term) {
	l := flat(t)
	x := l[r.Intn(len(l))]
	switch r.Intn(6) {
	case 0:
		x.Kind = r.Intn(9)
	case 1:
		x.N += r.Intn(3) - 1
	case 2:
		x.Name = []string{"", "a", "c", "fun", "nat.rec", "a."}[r.Intn(6)]
	case 3:
		x.A = random(r, r.Intn(4))
	case 4:
		x.B = nil
	case 5:
		x.C = random(r, r.Intn(4))
	}
}

func TestP6_2RandomTerms(t *testing.T) {
	r := rand.New(rand.NewSource(6))
	for range 4000 {
		x := random(r, 1+r.Intn(60))
		if !term.Is(x) {
			t.Fatalf("%s isn't", dump(x))
		}
		agrees(t, x)
		y := copied(x)
		for range 3 {
			spoil(r, y)
			agrees(t, y)
			if term.Same(x, y) != (dump(x) == dump(y)) || term.Same(y, x) != term.Same(x, y) {
				t.Fatalf("%s, %s: same %v", dump(x), dump(y), term.Same(x, y))
			}
		}
	}
}

func TestP6_2RandomLargeTerms(t *testing.T) {
	r := rand.New(rand.NewSource(66))
	for range 60 {
		x := random(r, 9000)
		agrees(t, x)
		y := copied(x)
		if !term.Same(x, y) {
			t.Fatal("a copy isn't the same")
		}
		spoil(r, y)
		agrees(t, y)
		if term.Same(x, y) != (dump(x) == dump(y)) {
			t.Fatalf("same %v", term.Same(x, y))
		}
	}
}
