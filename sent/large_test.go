package sent_test

import (
	"slices"
	"strings"
	"testing"
	"time"

	"vademecum/api"
	"vademecum/sent"
	"vademecum/term"
)

// soon holds that something is done in a time that is far more than it needs.
func soon(t *testing.T, what string, do func()) {
	t.Helper()
	start := time.Now()
	do()
	if took := time.Since(start); took > 20*time.Second {
		t.Errorf("%s took %v", what, took)
	}
}

// filled is a text made as long as a line, by blanks ahead of its last point.
func filled(text string, bytes int) string {
	return strings.TrimSuffix(text, ".") + strings.Repeat(" ", bytes-len(text)) + "."
}

// Lines of all the bytes there may be, and of one more.
func TestP21_1WholeLines(t *testing.T) {
	for _, row := range append(rows(), saidOtherwise()...) {
		text := strings.TrimRight(row.text, " \t\r\n")
		x, err := sent.Parse(filled(text, 2000))
		if err != nil || !sent.Same(x, row.x) {
			t.Errorf("%q in a whole line: %s, %v", row.text, tell(x), err)
		}
		refused(t, filled(text, 2001), api.ErrLarge)
		refused(t, filled(text+".", 2000), api.ErrForm)
	}
}

// The largest terms, and the deepest, that a line has room for.
func TestP21_1LargestTerms(t *testing.T) {
	a := constant("a")
	wide, right := a, a
	for range 995 {
		wide = app(wide, a)
	}
	for range 400 {
		right = app(a, right)
	}
	bracketed := strings.Repeat("(", 996) + "a" + strings.Repeat(")", 996)
	arrows := a
	for range 660 {
		arrows = pi(a, arrows)
	}
	for _, row := range []row{
		{"check a" + strings.Repeat(" a", 995) + ".", api.Sentence{Kind: api.SCheck, A: wide}},
		{"check " + strings.Repeat("a(", 400) + "a" + strings.Repeat(")", 400) + ".", api.Sentence{Kind: api.SCheck, A: right}},
		{"check " + bracketed + ".", api.Sentence{Kind: api.SCheck, A: a}},
		{"check " + strings.Repeat("a->", 660) + "a.", api.Sentence{Kind: api.SCheck, A: arrows}},
	} {
		x, err := sent.Parse(row.text)
		if len(row.text) > 2000 || err != nil || !sent.Same(x, row.x) {
			t.Errorf("%.20q, %d bytes: %s, %v", row.text, len(row.text), tell(x), err)
		}
		if y, err := sent.Parse(sent.Print(x)); len(sent.Print(x)) <= 2000 && (err != nil || !sent.Same(x, y)) {
			t.Errorf("%.20q: printed: %v", row.text, err)
		}
		refused(t, strings.TrimSuffix(row.text, "."), api.ErrForm)
	}
	refused(t, "check "+strings.Repeat("(", 1990)+".", api.ErrForm)
	refused(t, "check "+strings.Repeat("fun a:", 330)+".", api.ErrForm)
}

// As many constructors as a line has room for: how many a family may have isn't asked here.
func TestP21_1ManyConstructors(t *testing.T) {
	for _, n := range []int{8, 9, 12, 13, 100, 495} {
		text := "family f 0:a{" + strings.TrimSuffix(strings.Repeat("a:b;", n), ";") + "}."
		x, err := sent.Parse(text)
		if err != nil || len(x.Cons) != n {
			t.Fatalf("%d constructors: %s, %v", n, tell(x), err)
		}
		for i, c := range x.Cons {
			if c.Name != "a" || !term.Same(c.Type, constant("b")) {
				t.Errorf("constructor %d: %q %s", i, c.Name, tellTerm(c.Type))
			}
		}
		if got, want := sent.Print(x), "family f 0 : a { "+strings.TrimSuffix(strings.Repeat("a : b ; ", n), "; ")+"} ."; got != want {
			t.Errorf("%d constructors: %q", n, got)
		}
		refused(t, strings.Replace(text, "}", ";}", 1), api.ErrForm)
	}
}

// nest is a term of so many nodes, an odd number.
func nest(nodes int) *api.Term {
	t := constant("a")
	for range nodes / 2 {
		t = app(t, constant("a"))
	}
	return t
}

// Of whatever length is printed what has terms of MaxNodes, and nothing of one node more.
func TestP21_1PrintOfWhateverLength(t *testing.T) {
	most, over := let(constant("a"), constant("b"), nest(2997)), nest(3001)
	if term.Size(most) != 3000 || term.Size(over) != 3001 {
		t.Fatalf("%d, %d nodes", term.Size(most), term.Size(over))
	}
	said := "let _0 : a := b in a" + strings.Repeat(" a", 1498)
	for _, row := range []row{
		{"axiom a : " + said + " .", api.Sentence{Kind: api.SAxiom, Name: "a", A: most}},
		{"var a : " + said + " .", api.Sentence{Kind: api.SVar, Name: "a", A: most}},
		{"def a : " + said + " := " + said + " .", api.Sentence{Kind: api.SDef, Name: "a", A: most, B: most}},
		{"check " + said + " .", api.Sentence{Kind: api.SCheck, A: most}},
		{"family a 0 : " + said + " { a : " + said + " ; b : " + said + " } .", api.Sentence{Kind: api.SFamily, Name: "a", A: most, Cons: []api.Con{con("a", most), con("b", most)}}},
	} {
		if got := sent.Print(row.x); got != row.text {
			t.Errorf("%.30q: %d bytes, want %d", row.text, len(got), len(row.text))
		}
		refused(t, row.text, api.ErrLarge)
		for _, wrong := range overs(row.x, over) {
			if got := sent.Print(wrong); got != "" {
				t.Errorf("%.30q: %d bytes of what is too large", row.text, len(got))
			}
		}
	}
}

// overs are a sentence with each of its terms changed to another one.
func overs(x api.Sentence, over *api.Term) []api.Sentence {
	a, b := x, x
	a.A = over
	l := []api.Sentence{a}
	if x.B != nil {
		b.B = over
		l = append(l, b)
	}
	for i := range x.Cons {
		c := x
		c.Cons = slices.Clone(x.Cons)
		c.Cons[i].Type = over
		l = append(l, c)
	}
	return l
}

// odd are terms that unfold to very many nodes, or have no end.
func odd() []*api.Term {
	many := constant("a")
	for range 60 {
		many = app(many, many)
	}
	round := app(nil, constant("a"))
	round.A = round
	spine := app(constant("a"), nil)
	spine.B = app(constant("a"), spine)
	deep := constant("a")
	for range 1 << 16 {
		deep = pi(deep, sort(0))
	}
	return []*api.Term{many, round, spine, deep}
}

// Terms that no end comes to are printed nowhere, and held against each other soon.
func TestP21_1OddTerms(t *testing.T) {
	a := constant("a")
	soon(t, "printing odd terms", func() {
		for i, wrong := range odd() {
			for kind := -1; kind <= 15; kind++ {
				for _, x := range []api.Sentence{{Kind: kind, A: wrong}, {Kind: kind, Name: "a", A: wrong}, {Kind: kind, Name: "a", A: a, B: wrong}, {Kind: kind, Name: "a", A: a, Cons: []api.Con{con("c", a), con("d", wrong)}}} {
					if got := sent.Print(x); got != "" {
						t.Errorf("odd %d, Kind %d: %q", i, kind, got)
					}
				}
			}
		}
	})
	soon(t, "holding odd terms against each other", func() {
		l, others := odd(), odd()
		for i := range l {
			for j := range others {
				for _, part := range []func(*api.Term) api.Sentence{
					func(t *api.Term) api.Sentence { return api.Sentence{A: t} },
					func(t *api.Term) api.Sentence { return api.Sentence{A: a, B: t} },
					func(t *api.Term) api.Sentence { return api.Sentence{Cons: []api.Con{con("a", a), con("b", t)}} },
				} {
					if sent.Same(part(l[i]), part(others[j])) != (i == j) {
						t.Errorf("odd %d, %d: same %v", i, j, i != j)
					}
				}
			}
		}
	})
}

// Very many constructors are printed and held against each other soon, wherever one is wrong.
func TestP21_1VeryManyConstructors(t *testing.T) {
	const n = 1 << 18
	family := func() api.Sentence {
		x := api.Sentence{Kind: api.SFamily, Name: "f", A: constant("a")}
		shared := constant("b")
		for range n {
			x.Cons = append(x.Cons, con("c", shared))
		}
		return x
	}
	x, y := family(), family()
	soon(t, "printing many constructors", func() {
		if got, want := sent.Print(x), "family f 0 : a { c : b"+strings.Repeat(" ; c : b", n-1)+" } ."; got != want {
			t.Errorf("%d bytes, want %d", len(got), len(want))
		}
	})
	if !sent.Same(x, y) {
		t.Error("they aren't the same")
	}
	for _, i := range []int{0, n / 2, n - 1} {
		for _, wrong := range []api.Con{{Name: "fun", Type: constant("b")}, {Name: "c"}, {Name: "c", Type: variable(0)}} {
			was := y.Cons[i]
			y.Cons[i] = wrong
			if got := sent.Print(y); got != "" || sent.Same(x, y) {
				t.Errorf("constructor %d is wrong: %d bytes, same %v", i, len(got), sent.Same(x, y))
			}
			y.Cons[i] = was
		}
	}
}

// Very long texts and names are refused, and soon.
func TestP21_1VeryLong(t *testing.T) {
	soon(t, "long texts", func() {
		huge := strings.Repeat("a", 1<<26)
		refused(t, huge, api.ErrLarge)
		refused(t, "axiom "+huge+" : a .", api.ErrLarge)
		for _, x := range []api.Sentence{{Kind: api.SPrint, Name: huge}, {Kind: api.SPrint, Name: huge + ".rec"}, {Kind: api.SCheck, A: constant(huge)}, {Kind: api.SFamily, Name: "a", A: sort(0), Cons: []api.Con{con(huge, sort(0))}}} {
			if got := sent.Print(x); got != "" {
				t.Errorf("%d bytes", len(got))
			}
		}
		if sent.Same(api.Sentence{Name: huge}, api.Sentence{Name: huge + "a"}) || !sent.Same(api.Sentence{Name: huge}, api.Sentence{Name: strings.Clone(huge)}) {
			t.Error("long names aren't told apart")
		}
	})
}
