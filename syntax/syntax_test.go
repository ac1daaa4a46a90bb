package syntax_test

import (
	"errors"
	"fmt"
	"math"
	"slices"
	"strconv"
	"strings"
	"sync"
	"testing"

	"vademecum/api"
	"vademecum/lex"
	"vademecum/syntax"
	"vademecum/term"
)

func sort(n int) *api.Term { return &api.Term{Kind: api.TSort, N: n} }

func variable(n int) *api.Term { return &api.Term{Kind: api.TVar, N: n} }

func constant(name string) *api.Term { return &api.Term{Kind: api.TConst, Name: name} }

func rec(name string, n int) *api.Term { return &api.Term{Kind: api.TConst, Name: name, N: n} }

func pi(a, b *api.Term) *api.Term { return &api.Term{Kind: api.TPi, A: a, B: b} }

func lam(a, b *api.Term) *api.Term { return &api.Term{Kind: api.TLam, A: a, B: b} }

func let(a, b, c *api.Term) *api.Term { return &api.Term{Kind: api.TLet, A: a, B: b, C: c} }

func app(f *api.Term, l ...*api.Term) *api.Term {
	for _, x := range l {
		f = &api.Term{Kind: api.TApp, A: f, B: x}
	}
	return f
}

// long is a name of so many bytes.
func long(n int) string { return strings.Repeat("a", n) }

// show tells a term, so that two texts are the same just where the terms are; of what has very many nodes only the first ones.
func show(t *api.Term) string {
	if t == nil {
		return "-"
	}
	if term.Size(t) > 200 {
		return strconv.Itoa(term.Size(t)) + " nodes"
	}
	s := "(" + strconv.Itoa(t.Kind)
	if t.N != 0 || t.Name != "" {
		s += " " + strconv.Itoa(t.N) + " " + t.Name
	}
	for _, part := range []*api.Term{t.A, t.B, t.C} {
		if part != nil {
			s += show(part)
		}
	}
	return s + ")"
}

// tells whether an error tells a number, by errors.Is and by errors.As.
func tells(err error, want api.Errno) bool {
	if want == api.OK {
		return err == nil
	}
	var n api.Errno
	return errors.Is(err, want) && errors.As(err, &n) && n == want
}

// start is the beginning of words that may be many.
func start(words []string) string {
	return fmt.Sprintf("%d words, %q", len(words), words[:min(len(words), 40)])
}

// parses holds one Parse against what it should answer, and what it was handed against what that was.
func parses(t *testing.T, words, vars []string, want *api.Term, rest []string, why api.Errno) {
	t.Helper()
	roomyWords, roomyVars := append(slices.Clone(words), "x", ")")[:len(words)], append(slices.Clone(vars), "a", "b")[:len(vars)]
	got, gotRest, err := syntax.Parse(roomyWords, roomyVars)
	if !term.Same(got, want) || !slices.Equal(gotRest, rest) {
		t.Errorf("%s with %s: %s, %s; want %s, %s", start(words), start(vars), show(got), start(gotRest), show(want), start(rest))
	}
	if !tells(err, why) {
		t.Errorf("%s with %s: %v, want %v", start(words), start(vars), err, why)
	}
	if !slices.Equal(roomyWords[:len(words)+2], append(slices.Clone(words), "x", ")")) || !slices.Equal(roomyVars[:len(vars)+2], append(slices.Clone(vars), "a", "b")) {
		t.Errorf("%s with %s is changed", start(words), start(vars))
	}
}

// refused holds one Parse against an error.
func refused(t *testing.T, words, vars []string, why api.Errno) {
	t.Helper()
	parses(t, words, vars, nil, words, why)
}

// holdsAtom holds one Atom against what it should answer; nil, if the word says none.
func holdsAtom(t *testing.T, word string, want *api.Term) {
	t.Helper()
	if got, ok := syntax.Atom(word); !term.Same(got, want) || ok != (want != nil) {
		t.Errorf("atom %q: %s, %v; want %s", word, show(got), ok, show(want))
	}
	if want == nil {
		refused(t, []string{word, "a"}, nil, api.ErrForm)
		parses(t, []string{"a", word, "a"}, nil, constant("a"), []string{word, "a"}, api.OK)
		return
	}
	parses(t, []string{word}, nil, want, nil, api.OK)
	parses(t, []string{"a", word, word, "."}, nil, app(constant("a"), want, want), []string{"."}, api.OK)
}

func TestP10_1Atoms(t *testing.T) {
	for n := range 10 {
		digit := strconv.Itoa(n)
		holdsAtom(t, "Type"+digit, sort(n))
		holdsAtom(t, "nat.rec@"+digit, rec("nat.rec", n))
		holdsAtom(t, long(20)+".rec@"+digit, rec(long(20)+".rec", n))
		for _, word := range []string{"type" + digit, "Typ" + digit, "Type1" + digit, "Type_" + digit, "Typea" + digit, "a" + digit, "a.Type" + digit, "Type" + digit + ".a"} {
			holdsAtom(t, word, constant(word))
		}
		for _, word := range []string{digit, "@" + digit, "nat@" + digit, "rec@" + digit, ".rec@" + digit, "1.rec@" + digit, "Type@" + digit, "Type0@" + digit, "nat.rec.@" + digit, "nat.recs@" + digit, "nat.rec@1" + digit, "nat.rec@@" + digit, "nat.rec@1@" + digit, "nat.rec@-" + digit, "nat.rec@ " + digit, "nat.rec@" + digit + " ", "nat.rec @" + digit, "nat.rec@Type" + digit, long(21) + ".rec@" + digit, long(24) + ".rec@" + digit} {
			holdsAtom(t, word, nil)
		}
	}
	for _, word := range []string{"a", "Z", "a_", "a9", "a.b", "a.b.c_1", "Type", "Fun", "funs", "inn", "le", "p", "a.fun", "fun.a", "let.in", "rec", "a.recs", "a.rec.b", long(24), long(22) + ".b"} {
		holdsAtom(t, word, constant(word))
	}
	for _, word := range []string{"nat.rec", "a.b.rec", "fun.rec", "Type0.rec", "rec.rec", "a.rec.rec", long(20) + ".rec"} {
		holdsAtom(t, word, rec(word, 0))
		holdsAtom(t, word+"@0", rec(word, 0))
		holdsAtom(t, word+"@7", rec(word, 7))
	}
	for _, word := range []string{"", " ", "_", "_0", "_a", "1", "1a", "a.", ".a", "a..b", "a._b", "a.1", "a b", "a ", " a", "a@", "@", "@a", "a@1", "nat.rec@", "nat.rec@x", "nat.rec@\xb2", "nat.rec@:", "nat.rec@/", "Type:", "Type/ ", "ä", "a\x00", ".", ":", ":=", "=>", ",", ";", "{", "}", ")", "in", long(25), long(21) + ".rec", long(24) + ".rec", long(60)} {
		holdsAtom(t, word, nil)
	}
	for _, word := range []string{"fun", "pi", "let", "(", "->"} {
		if got, ok := syntax.Atom(word); got != nil || ok {
			t.Errorf("atom %q: %s, %v", word, show(got), ok)
		}
	}
}

// told are texts, what is around them, what they say and what they leave.
func told() []struct {
	s, vars string
	want    *api.Term
	rest    string
} {
	a, b, c, v, w := constant("a"), constant("b"), constant("c"), variable(0), variable(1)
	return []struct {
		s, vars string
		want    *api.Term
		rest    string
	}{
		{"a", "", a, ""},
		{"a b c", "", app(a, b, c), ""},
		{"a ( b c )", "", app(a, app(b, c)), ""},
		{"( a b ) c", "", app(a, b, c), ""},
		{"( ( ( a ) ) )", "", a, ""},
		{"( a ) ( b ) ( c )", "", app(a, b, c), ""},
		{"a Type3 n.rec@2", "", app(a, sort(3), rec("n.rec", 2)), ""},
		{"a -> b", "", pi(a, b), ""},
		{"a -> b -> c", "", pi(a, pi(b, c)), ""},
		{"( a -> b ) -> c", "", pi(pi(a, b), c), ""},
		{"a b -> b c", "", pi(app(a, b), app(b, c)), ""},
		{"a ( b -> c )", "", app(a, pi(b, c)), ""},
		{"x -> x", "x", pi(v, w), ""},
		{"x -> x -> x", "x", pi(v, pi(w, variable(2))), ""},
		{"( x -> x ) x", "x", app(pi(v, w), v), ""},
		{"x -> fun x : x => x", "x", pi(v, lam(w, v)), ""},
		{"fun x : a => x", "", lam(a, v), ""},
		{"fun x : a => fun y : x => x y", "", lam(a, lam(v, app(w, v))), ""},
		{"fun x : a => b x -> x", "", lam(a, pi(app(b, v), w)), ""},
		{"fun x : a -> b => x", "", lam(pi(a, b), v), ""},
		{"fun x : x => x", "x", lam(v, v), ""},
		{"fun x : fun y : a => b => x", "", lam(lam(a, b), v), ""},
		{"fun x : fun y : a => y => y", "y", lam(lam(a, v), w), ""},
		{"pi x : Type0 , x -> x", "", pi(sort(0), pi(v, w)), ""},
		{"pi x : pi y : a , b , x", "", pi(pi(a, b), v), ""},
		{"pi x : fun y : a => b , x", "", pi(lam(a, b), v), ""},
		{"pi f : x , fun y : f => x", "x", pi(v, lam(v, variable(2))), ""},
		{"let x : a := b in x", "", let(a, b, v), ""},
		{"let x : x := x in x", "x", let(v, v, v), ""},
		{"let x : a := let y : b := c in y in x", "", let(a, let(b, c, v), v), ""},
		{"let x : let y : b := c in y := b in x", "", let(let(b, c, v), b, v), ""},
		{"let x : a := b -> c in x -> x", "", let(a, pi(b, c), pi(v, w)), ""},
		{"a ( fun x : b => x ) c", "", app(a, lam(b, v), c), ""},
		{"( fun x : b => x ) x", "x", app(lam(b, v), v), ""},
		{"( let x : a := b in x ) -> x", "x", pi(let(a, b, v), w), ""},
		{"x ( x ( x y ) ) y", "y x", app(v, app(v, app(v, w)), w), ""},
		// What is behind: a term goes on as long as it can.
		{"a .", "", a, "."},
		{"a b , c", "", app(a, b), ", c"},
		{"a := b", "", a, ":= b"},
		{"a => b", "", a, "=> b"},
		{"a ; b }", "", a, "; b }"},
		{"a : b", "", a, ": b"},
		{"a ) b", "", a, ") b"},
		{"( a ) ) (", "", a, ") ("},
		{"a fun", "", a, "fun"},
		{"a pi x : a , b", "", a, "pi x : a , b"},
		{"a in b", "", a, "in b"},
		{"a b let", "", app(a, b), "let"},
		{"a _x b", "", a, "_x b"},
		{"a Type0@1 b", "", a, "Type0@1 b"},
		{"a -> b , c", "", pi(a, b), ", c"},
		{"fun x : a => b , c", "", lam(a, b), ", c"},
		{"pi x : a , b , c -> d", "", pi(a, b), ", c -> d"},
		{"let x : a := b in x in x", "", let(a, b, v), "in x"},
		{"fun x : a => x fun x : a => x", "", lam(a, v), "fun x : a => x"},
		{"fun x : a => x ) x", "", lam(a, v), ") x"},
		{"a {", "", a, "{"},
	}
}

func TestP10_1Parsed(t *testing.T) {
	for _, row := range told() {
		words := strings.Fields(row.s)
		parses(t, words, strings.Fields(row.vars), row.want, strings.Fields(row.rest), api.OK)
		// The words are those that a text is in, whatever its blanks.
		if got, err := lex.Words(row.s); !slices.Equal(got, words) || err != nil {
			t.Errorf("words of %q: %q, %v", row.s, got, err)
		}
	}
}

// refusals are texts without a term at the front.
func refusals() []string {
	return []string{
		"", "(", ")", "( )", "( a", "( ( a )", "( a b", "( a ->", "( a , b )", "( a . )", "a (", "a ( b", "a ( b c", "a ( )", "a ( ) b", "a b ( fun )", "( fun x : a => x", "( ( ) )",
		"->", "-> a", "a ->", "a -> )", "a -> ->", "a -> -> b", "a -> b ->", "a -> ( b", "( a -> ) b", "a -> fun", "a -> in", "a -> .", "a b -> ,",
		"fun", "fun x", "fun x :", "fun x : a", "fun x : a =>", "fun x : a , b", "fun x : a := b", "fun x : => b", "fun x a => b", "fun : a => b", "fun x y : a => b", "fun ( x : a ) => b", "fun x := a => b", "fun x : a => )", "fun x : a => ( b", "fun x : a b", "fun x : ( a => b", "fun x : a -> => b", "fun x : a . => b",
		"pi", "pi x", "pi x :", "pi x : a", "pi x : a ,", "pi x : a => b", "pi x : , b", "pi x a , b", "pi x : a -> b", "pi x : a , ,", "pi x : a , pi",
		"let", "let x", "let x :", "let x : a", "let x : a :=", "let x : a := b", "let x : a := b in", "let x : a in b", "let x := a in b", "let x : := b in a", "let x : a := in b", "let x : a := b , c", "let x : a := b in in", "let x : a => b in c", "let x : a := b in ) c", "let x : a = b in c", "let x : a := b ; c",
		"in", "in a", ":", ": a", ":=", "=>", ",", ".", ";", "{", "}", "{ a }", ". a", "1", "1 a", "_x", "_x a", "Type0@1", "a@1", "@",
		"fun x : a => _x", "fun x : a => y.1", "fun x : _x => x", "let _x : a := _x in a", "( fun _x : a => a ) -> _x", "( let _x : a := b in _x ) ( _x )",
	}
}

func TestP10_1Refused(t *testing.T) {
	for _, s := range refusals() {
		words := strings.Fields(s)
		refused(t, words, nil, api.ErrForm)
		refused(t, words, []string{"a", "b", "x"}, api.ErrForm)
		// What can't be ended isn't, whatever began it.
		if s == "" || strings.HasSuffix(s, ")") {
			continue
		}
		for _, ahead := range []string{"( ", "a -> ", "fun y : ", "fun y : c => ", "pi y : ", "pi y : c , ", "let y : ", "let y : c := ", "let y : c := c in ", "( c -> fun y : c => "} {
			refused(t, strings.Fields(ahead+s), nil, api.ErrForm)
		}
	}
	refused(t, nil, nil, api.ErrForm)
	refused(t, []string{""}, nil, api.ErrForm)
	refused(t, []string{"", "a"}, []string{"", "a"}, api.ErrForm)
	refused(t, []string{"a", "->", ""}, []string{""}, api.ErrForm)
}

func TestP10_1BoundNames(t *testing.T) {
	for _, name := range []string{"x", "X", "_", "__", "_0", "_9a", "a1", "a_", "Type", "Type10", "Type_", "type0", "_Type0", "_fun", "Fun", "funs", "inn", "rec", "axiom", long(24), "_" + long(23)} {
		words := []string{"fun", name, ":", "a", "=>", name}
		parses(t, words, nil, lam(constant("a"), variable(0)), nil, api.OK)
		parses(t, words[5:], []string{name}, variable(0), nil, api.OK)
		parses(t, []string{"let", name, ":", "a", ":=", "b", "in", name}, nil, let(constant("a"), constant("b"), variable(0)), nil, api.OK)
		parses(t, []string{"pi", name, ":", "a", ",", name}, nil, pi(constant("a"), variable(0)), nil, api.OK)
	}
	for _, name := range []string{"", "1", "1a", "a.b", "a.", ".", "@", "a@", "n.rec@1", "n.rec", "fun", "pi", "let", "in", "Type0", "Type5", "Type9", long(25), "_" + long(24), "ä", "a b", "a ", "(", ")", ":", "->", "[", "`", "{", "a-b", "a/", "a:"} {
		for _, s := range []string{"fun % : a => b", "pi % : a , b", "let % : a := b in c"} {
			words := strings.Fields(s)
			words[1] = name
			refused(t, words, nil, api.ErrForm)
			refused(t, words, []string{name, "a"}, api.ErrForm)
		}
	}
}

// A variable is told by how many are bound behind it, whatever their names are.
func TestP10_1Variables(t *testing.T) {
	a, x := constant("a"), constant("x")
	for _, row := range []struct {
		word, vars string
		want       *api.Term
	}{
		{"x", "", x}, {"x", "x", variable(0)}, {"x", "x x", variable(0)}, {"x", "x y", variable(1)}, {"x", "y x", variable(0)}, {"x", "x y x y", variable(1)}, {"x", "x y z y", variable(3)}, {"x", "y z", x}, {"x", "X _x xx", x},
		{"Type0", "Type0", sort(0)}, {"a.b", "a.b", constant("a.b")}, {"n.rec@3", "n.rec@3", rec("n.rec", 3)}, {"n.rec", "n.rec n", rec("n.rec", 0)}, {"x", "x fun a.b Type0 @", variable(4)},
		{"x.y", "x y", constant("x.y")}, {"_", "_", variable(0)}, {"Type", "Type", variable(0)},
	} {
		vars := strings.Fields(row.vars)
		parses(t, []string{row.word}, vars, row.want, nil, api.OK)
		parses(t, []string{"a", row.word, ","}, vars, app(a, row.want), []string{","}, api.OK)
	}
	for _, word := range []string{"", "1", "fun", "in", "(", ")", "->", long(25), "a b"} {
		refused(t, []string{word}, []string{word, word}, api.ErrForm)
		// It is counted, but it names nothing.
		parses(t, []string{"x", "x"}, []string{"x", word}, app(variable(1), variable(1)), nil, api.OK)
	}
	// Behind its binder a name is what it was ahead.
	parses(t, strings.Fields("( fun x : x => x ) x ( pi x : x , let x : x := x in x ) x"), []string{"x", "y"},
		app(lam(variable(1), variable(0)), variable(1), pi(variable(1), let(variable(0), variable(0), variable(0))), variable(1)), nil, api.OK)
	parses(t, strings.Fields("( fun x : x => x ) x"), nil, app(lam(x, variable(0)), x), nil, api.OK)
	parses(t, strings.Fields("( fun x : a => fun x : x => x ) x ( a -> x ) x"), nil, app(lam(a, lam(variable(0), variable(0))), x, pi(a, x), x), nil, api.OK)
}

// No variable is further away than one of a term may be.
func TestP10_1FarVariables(t *testing.T) {
	vars := make([]string, 100002)
	vars[0], vars[1], vars[2] = "x", "y", "x"
	parses(t, []string{"y"}, vars, variable(100000), nil, api.OK)
	parses(t, []string{"x"}, vars, variable(99999), nil, api.OK)
	vars[2] = ""
	refused(t, []string{"x"}, vars, api.ErrForm)
	refused(t, strings.Fields("y -> y"), vars, api.ErrForm)
	parses(t, strings.Fields("y x"), vars, variable(100000), []string{"x"}, api.OK)
}

// repeated is a text's words so many times, and then those of another one.
func repeated(s string, times int, end string) []string {
	return append(slices.Repeat(strings.Fields(s), times), strings.Fields(end)...)
}

func TestP10_1AtTheLimit(t *testing.T) {
	for _, row := range []struct {
		s     string
		nodes int // that each time adds
		end   string
		last  int // nodes of the end
	}{
		{"a", 2, "a", 1}, {"a ->", 2, "a", 1}, {"fun x : a =>", 2, "x", 1}, {"pi x : a ,", 2, "x", 1}, {"let x : a := a in", 3, "x", 1}, {"let x : a := a in", 3, "a x", 3}, {"fun x : a =>", 2, "let x : x := x in x", 4}, {"a", 2, "( let x : a := a in a )", 4},
	} {
		full := (api.MaxNodes - row.last) / row.nodes
		words := repeated(row.s, full, row.end)
		got, rest, err := syntax.Parse(append(words, "."), nil)
		if term.Size(got) != full*row.nodes+row.last || !term.Is(got) || !slices.Equal(rest, []string{"."}) || err != nil {
			t.Errorf("%q: %d nodes, %v", row.s, term.Size(got), err)
		}
		for _, times := range []int{full + 1, full + 2, 3 * full} {
			refused(t, append(repeated(row.s, times, row.end), ")", "."), nil, api.ErrLarge)
			// That there is no term at all comes first.
			refused(t, append(repeated(row.s, times, row.end), "->", "."), nil, api.ErrForm)
			refused(t, repeated("( "+row.s, times, row.end), nil, api.ErrForm)
		}
	}
	// Just as many nodes as a term may have, and one more.
	parses(t, repeated("a", 1498, "( let x : a := a in a )"), nil, app(constant("a"), append(slices.Repeat([]*api.Term{constant("a")}, 1497), let(constant("a"), constant("a"), constant("a")))...), nil, api.OK)
	refused(t, repeated("a", 1501, ""), nil, api.ErrLarge)
	// Brackets are no nodes.
	parses(t, append(repeated("(", 5000, "a"), repeated(")", 5001, "")...), nil, constant("a"), []string{")"}, api.OK)
}

// As many parts nested in one another as are promised for.
func TestP10_1Deep(t *testing.T) {
	const deep = 1 << 16
	parses(t, append(repeated("(", deep, "x"), repeated(")", deep, "")...), []string{"x"}, variable(0), nil, api.OK)
	refused(t, append(repeated("(", deep, "x"), repeated(")", deep-1, "")...), []string{"x"}, api.ErrForm)
	for _, s := range []string{"( ", "a (", "a ->", "fun x : a =>", "pi x :", "let x : a :=", "let x : a := a in"} {
		refused(t, repeated(s, deep, ""), nil, api.ErrForm)
		refused(t, repeated(s, deep, "->"), nil, api.ErrForm)
	}
	for _, s := range []string{"a ->", "fun x : x =>", "pi x : a ,", "let x : a := x in"} {
		refused(t, repeated(s, deep, "x"), []string{"x"}, api.ErrLarge)
	}
}

func TestP10_1ErrorsTellWhere(t *testing.T) {
	for s, want := range map[string]string{
		"":                         "syntax: word 0: no term: error 10",
		") a":                      "syntax: word 0: no term: error 10",
		"( a":                      "syntax: word 2: no ): error 10",
		"a ( b ( )":                "syntax: word 4: no term: error 10",
		"a ->":                     "syntax: word 2: no term: error 10",
		"fun in : a => b":          "syntax: word 1: no name: error 10",
		"fun x a":                  "syntax: word 2: no :: error 10",
		"fun x : a , b":            "syntax: word 4: no =>: error 10",
		"pi x : a => b":            "syntax: word 4: no ,: error 10",
		"let x : a := b":           "syntax: word 6: no in: error 10",
		strings.Repeat("a ", 1501): "syntax: word 1501: too many nodes: error 13",
	} {
		if _, _, err := syntax.Parse(strings.Fields(s), nil); err == nil || err.Error() != want {
			t.Errorf("%.60q: %v, want %s", s, err, want)
		}
	}
}

// spoil changes all nodes of a term.
func spoil(t *api.Term) {
	if t != nil {
		spoil(t.A)
		spoil(t.B)
		spoil(t.C)
		*t = api.Term{Kind: 77, Name: "spoilt"}
	}
}

// What is answered is new each time, its spare room too, and none of it is what was handed in.
func TestP10_1AnswersAreNew(t *testing.T) {
	for _, s := range []string{"fun x : a b => x ( x Type0 ) , c d", "a a ( a ) a -> a", "( a , c d", strings.Repeat("a ", 1501)} {
		words, vars := strings.Fields(s), []string{"a", "c"}
		before := slices.Clone(words)
		first, firstRest, _ := syntax.Parse(words, vars)
		second, secondRest, _ := syntax.Parse(words, vars)
		shown, rest := show(second), slices.Clone(secondRest)
		spoil(first)
		for i := range firstRest[:cap(firstRest)] {
			firstRest[:cap(firstRest)][i] = "spoilt"
		}
		if !slices.Equal(words, before) || !slices.Equal(vars, []string{"a", "c"}) {
			t.Fatalf("%.60q is changed", before)
		}
		for i := range words {
			words[i] = "spoilt"
		}
		if show(second) != shown || !slices.Equal(secondRest, rest) {
			t.Errorf("%.60q: %s, %.60q", before, show(second), secondRest)
		}
	}
	first, _ := syntax.Atom("n.rec@2")
	spoil(first)
	holdsAtom(t, "n.rec@2", rec("n.rec", 2))
}

// No node of what is parsed is shared: each may be changed alone.
func TestP10_1NodesAreTheirOwn(t *testing.T) {
	x, _, _ := syntax.Parse(strings.Fields("a a ( fun x : a => x x ) a Type0 Type0"), nil)
	seen := map[*api.Term]bool{nil: true}
	var look func(x *api.Term)
	look = func(x *api.Term) {
		if x == nil {
			return
		}
		if seen[x] {
			t.Errorf("%s is shared", show(x))
		}
		seen[x] = true
		look(x.A)
		look(x.B)
		look(x.C)
	}
	look(x)
}

func TestP10_2Printed(t *testing.T) {
	a, b, c, v, w := constant("a"), constant("b"), constant("c.d"), variable(0), variable(1)
	for _, row := range []struct {
		t    *api.Term
		want string
	}{
		{sort(0), "Type0"}, {sort(9), "Type9"}, {a, "a"}, {c, "c.d"}, {constant(long(24)), long(24)}, {constant("Type"), "Type"}, {constant("Type10"), "Type10"},
		{rec("n.rec", 0), "n.rec@0"}, {rec("n.rec", 9), "n.rec@9"}, {rec("fun.rec", 4), "fun.rec@4"}, {constant("rec"), "rec"}, {constant("n.rec.m"), "n.rec.m"},
		{app(a, b), "a b"}, {app(a, b, c), "a b c.d"}, {app(a, app(b, c)), "a ( b c.d )"}, {app(app(a, b), app(b, c), c), "a b ( b c.d ) c.d"}, {app(a, app(b, app(b, c))), "a ( b ( b c.d ) )"}, {app(sort(1), rec("n.rec", 2)), "Type1 n.rec@2"},
		{pi(a, b), "pi _0 : a , b"}, {pi(a, v), "pi _0 : a , _0"}, {pi(a, pi(v, w)), "pi _0 : a , pi _1 : _0 , _0"}, {pi(pi(a, b), c), "pi _0 : pi _0 : a , b , c.d"}, {pi(app(a, b), app(a, v)), "pi _0 : a b , a _0"},
		{lam(a, v), "fun _0 : a => _0"}, {lam(a, lam(b, app(w, v))), "fun _0 : a => fun _1 : b => _0 _1"}, {lam(lam(a, v), v), "fun _0 : fun _0 : a => _0 => _0"},
		{let(a, b, v), "let _0 : a := b in _0"}, {let(lam(a, v), lam(b, v), let(v, v, app(v, w))), "let _0 : fun _0 : a => _0 := fun _0 : b => _0 in let _1 : _0 := _0 in _1 _0"}, {lam(a, let(v, v, app(w, v))), "fun _0 : a => let _1 : _0 := _0 in _0 _1"},
		{app(pi(a, b), c), "( pi _0 : a , b ) c.d"}, {app(lam(a, v), c), "( fun _0 : a => _0 ) c.d"}, {app(let(a, b, v), c), "( let _0 : a := b in _0 ) c.d"},
		{app(a, pi(a, b)), "a ( pi _0 : a , b )"}, {app(a, lam(a, v)), "a ( fun _0 : a => _0 )"}, {app(a, let(a, b, v)), "a ( let _0 : a := b in _0 )"},
		{app(lam(a, v), lam(a, v), app(a, b)), "( fun _0 : a => _0 ) ( fun _0 : a => _0 ) ( a b )"}, {lam(a, app(a, lam(b, app(v, w)))), "fun _0 : a => a ( fun _1 : b => _1 _0 )"}, {lam(a, app(app(lam(v, v), v), pi(v, w))), "fun _0 : a => ( fun _1 : _0 => _1 ) _0 ( pi _1 : _0 , _0 )"},
	} {
		if got := syntax.Print(row.t); got != row.want {
			t.Errorf("%s: %q, want %q", show(row.t), got, row.want)
		}
	}
}

// Of what is no term, and of what has to be under binders, there is no text.
func TestP10_2NotPrinted(t *testing.T) {
	a := constant("a")
	round := app(a, a)
	round.A = round
	for i, x := range []*api.Term{
		nil, {}, {Kind: 8, A: a, B: a}, {Kind: -1}, sort(-1), sort(10), sort(math.MinInt), constant(""), constant("fun"), constant("in"), constant("Type0"), constant("a."), constant("_0"), constant("a b"), constant(long(25)), constant("n.rec@1"), rec("a", 1), rec("a.rec", 10), rec("a.rec", -1), rec(long(21)+".rec", 1),
		pi(a, nil), lam(nil, a), app(a, nil), let(a, nil, a), {Kind: api.TConst, Name: "a", A: a}, {Kind: api.TApp, A: a, B: a, C: a}, {Kind: api.TPi, Name: "x", A: a, B: a}, round,
		variable(0), variable(7), variable(-1), variable(100001), lam(a, variable(1)), lam(variable(0), variable(0)), pi(variable(0), a), let(variable(0), a, a), let(a, variable(0), a), let(a, a, variable(1)), app(variable(0), a), app(a, variable(0)), lam(a, lam(a, variable(2))), app(lam(a, variable(0)), variable(0)), lam(a, variable(-1)),
		app(a, slices.Repeat([]*api.Term{a}, 1500)...),
	} {
		// Around it is nothing that binds a variable of it.
		for _, y := range []*api.Term{x, app(a, x), let(a, x, a), lam(app(pi(a, a), pi(x, a)), a)} {
			if got := syntax.Print(y); got != "" {
				t.Errorf("row %d: %.60q", i, got)
			}
		}
	}
}

// saidAgain holds what a text of a term says against the term.
func saidAgain(t *testing.T, x *api.Term) {
	t.Helper()
	s := syntax.Print(x)
	words := strings.Fields(s)
	if strings.Join(words, " ") != s || s == "" {
		t.Fatalf("%s: %.200q has other blanks", show(x), s)
	}
	parses(t, words, nil, x, nil, api.OK)
	// What is around by other names hides nothing, and what is behind isn't taken.
	parses(t, append(words, ")", "a"), []string{"p", "_0", "_1"}, x, []string{")", "a"}, api.OK)
	got, err := lex.Words(s)
	if len(s) <= api.MaxLine && (err != nil || !slices.Equal(got, words)) || len(s) > api.MaxLine && !tells(err, api.ErrLarge) {
		t.Fatalf("%.200q: %v", s, err)
	}
}

// Terms as deep and as large as they may be.
func TestP10_3LargeTerms(t *testing.T) {
	a := constant("a")
	for _, more := range []func(x *api.Term) *api.Term{
		func(x *api.Term) *api.Term { return app(x, a) },
		func(x *api.Term) *api.Term { return app(a, x) },
		func(x *api.Term) *api.Term { return pi(x, variable(0)) },
		func(x *api.Term) *api.Term { return pi(a, x) },
		func(x *api.Term) *api.Term { return lam(x, a) },
		func(x *api.Term) *api.Term { return lam(sort(9), x) },
		func(x *api.Term) *api.Term { return let(x, a, variable(0)) },
		func(x *api.Term) *api.Term { return let(a, x, variable(0)) },
		func(x *api.Term) *api.Term { return let(a, rec("n.rec", 1), x) },
		func(x *api.Term) *api.Term { return app(lam(a, x), a) },
	} {
		for _, x := range []*api.Term{a, let(a, a, a), lam(a, lam(a, variable(1)))} {
			for range (api.MaxNodes - term.Size(x)) / (term.Size(more(a)) - 1) {
				x = more(x)
			}
			saidAgain(t, x)
		}
	}
	// Each variable of many is said by its own name.
	x := app(a, variable(0), variable(1), variable(700), variable(733))
	for range 734 {
		x = lam(sort(0), x)
	}
	if s := syntax.Print(x); !strings.HasSuffix(s, " => a _733 _732 _33 _0") {
		t.Errorf("%q", s[len(s)-60:])
	}
	saidAgain(t, x)
}

// What is said stays as it was said, whoever says it too.
func TestP10_3AskedAtOnce(t *testing.T) {
	words, vars := strings.Fields("fun x : a -> y => let z : x := y in z ( x y n.rec@1 )"), []string{"y"}
	closed := pi(constant("y"), lam(pi(constant("a"), variable(1)), let(variable(0), variable(1), app(variable(0), app(variable(1), variable(2), rec("n.rec", 1))))))
	var all sync.WaitGroup
	for range 8 {
		all.Go(func() {
			for range 200 {
				x, rest, err := syntax.Parse(words, vars)
				if !term.Same(x, closed.B) || len(rest) > 0 || err != nil {
					t.Error("parsed otherwise")
				}
				if s := syntax.Print(closed); s != "pi _0 : y , fun _1 : pi _1 : a , _0 => let _2 : _1 := _0 in _2 ( _1 _0 n.rec@1 )" {
					t.Errorf("printed %q", s)
				}
			}
		})
	}
	all.Wait()
}

func Example() {
	words, _ := lex.Words("fun x:a -> y => f x, y")
	t, rest, err := syntax.Parse(words, []string{"y"})
	fmt.Println(term.Free(t), rest, err)
	t, _, _ = syntax.Parse(words, nil)
	fmt.Println(syntax.Print(t))
	_, rest, err = syntax.Parse([]string{"a", "->", ","}, nil)
	fmt.Println(rest, errors.Is(err, api.ErrForm), err)
	// Output:
	// 1 [, y] <nil>
	// fun _0 : pi _0 : a , y => f _0
	// [a -> ,] true syntax: word 2: no term: error 10
}
