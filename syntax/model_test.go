package syntax_test

import (
	"math/rand"
	"regexp"
	"slices"
	"strconv"
	"strings"
	"testing"

	"vademecum/api"
	"vademecum/syntax"
	"vademecum/term"
)

var (
	aBinder  = regexp.MustCompile(`\A[a-zA-Z_][a-zA-Z0-9_]{0,23}\z`)
	aKeyword = regexp.MustCompile(`\A(fun|pi|let|in|Type[0-9])\z`)
	aSort    = regexp.MustCompile(`\AType[0-9]\z`)
	aName    = regexp.MustCompile(`\A[a-zA-Z][a-zA-Z0-9_]*(\.[a-zA-Z][a-zA-Z0-9_]*)*\z`)
	aRec     = regexp.MustCompile(`\A([a-zA-Z][a-zA-Z0-9_.]*\.rec)(@[0-9])?\z`)
)

// modelBound tells whether a word may be bound.
func modelBound(word string) bool { return aBinder.MatchString(word) && !aKeyword.MatchString(word) }

// modelAtom is Atom told another way.
func modelAtom(word string) *api.Term {
	if aSort.MatchString(word) {
		return sort(int(word[4] - '0'))
	}
	n := 0
	if m := aRec.FindStringSubmatch(word); m != nil && m[2] != "" {
		word, n = m[1], int(m[2][1]-'0')
	}
	if !aName.MatchString(word) || len(word) > 24 || aKeyword.MatchString(word) {
		return nil
	}
	return rec(word, n)
}

// reading: one way to read what is at the front as a term, and how many words it takes.
type reading struct {
	t    *api.Term
	size int
}

// model: words that are read in all ways that there are, not only the longest one.
type model struct{ words []string }

// at is the word at a place; behind the last one "".
func (m *model) at(i int) string {
	if i < len(m.words) {
		return m.words[i]
	}
	return ""
}

// terms are all readings from a place, the innermost variable around last.
func (m *model) terms(from int, vars []string) []reading {
	switch m.at(from) {
	case "fun":
		return m.binders(from, vars, api.TLam, ":", "=>")
	case "pi":
		return m.binders(from, vars, api.TPi, ":", ",")
	case "let":
		return m.binders(from, vars, api.TLet, ":", ":=", "in")
	}
	var l []reading
	rows := m.atoms(from, vars)
	for len(rows) > 0 {
		row := rows[0]
		rows = rows[1:]
		l = append(l, row)
		for _, next := range m.atoms(from+row.size, vars) {
			rows = append(rows, reading{app(row.t, next.t), row.size + next.size})
		}
		if m.at(from+row.size) == "->" {
			for _, to := range m.terms(from+row.size+1, append(slices.Clone(vars), "")) {
				l = append(l, reading{pi(row.t, to.t), row.size + 1 + to.size})
			}
		}
	}
	return l
}

// atoms are all atoms from a place.
func (m *model) atoms(from int, vars []string) []reading {
	word := m.at(from)
	if word == "(" {
		var l []reading
		for _, x := range m.terms(from+1, vars) {
			if m.at(from+1+x.size) == ")" {
				l = append(l, reading{x.t, x.size + 2})
			}
		}
		return l
	}
	for back := range len(vars) {
		if word == vars[len(vars)-1-back] && modelBound(word) {
			return []reading{{variable(back), 1}}
		}
	}
	if x := modelAtom(word); x != nil {
		return []reading{{x, 1}}
	}
	return nil
}

// binders are all readings of what a keyword begins.
func (m *model) binders(from int, vars []string, kind int, signs ...string) []reading {
	name := m.at(from + 1)
	if !modelBound(name) {
		return nil
	}
	rows := []reading{{&api.Term{Kind: kind}, 2}}
	for i, sign := range signs {
		around := slices.Clone(vars)
		if i == len(signs)-1 {
			around = append(around, name)
		}
		var longer []reading
		for _, row := range rows {
			if m.at(from+row.size) != sign {
				continue
			}
			for _, part := range m.terms(from+row.size+1, around) {
				t := *row.t
				*[]**api.Term{&t.A, &t.B, &t.C}[i] = part.t
				longer = append(longer, reading{&t, row.size + 1 + part.size})
			}
		}
		rows = longer
	}
	return rows
}

// modelParse is Parse told another way: of all readings the longest, if nothing is begun behind it that would belong to it.
func modelParse(words, vars []string) (*api.Term, []string, api.Errno) {
	m := &model{words}
	var best reading
	for _, row := range m.terms(0, vars) {
		if row.size > best.size {
			best = row
		}
	}
	if next := m.at(best.size); best.t == nil || next == "(" || next == "->" {
		return nil, words, api.ErrForm
	}
	return best.t, words[best.size:], api.OK
}

// agrees holds Parse against the model.
func agrees(t *testing.T, words, vars []string) bool {
	t.Helper()
	want, rest, why := modelParse(words, vars)
	parses(t, words, vars, want, rest, why)
	return why == api.OK
}

// Every row of a few words, also behind what is begun.
func TestP10_1EveryShortRow(t *testing.T) {
	units := []string{"a", "x", "(", ")", "->", "fun", "pi", "let", ":", ":=", "=>", ",", "in", "_"}
	told := 0
	for _, ahead := range []string{"", "fun x : a =>", "( a", "let x : a :=", "pi x :", "a ->"} {
		rows := [][]string{strings.Fields(ahead)}
		for range 4 {
			var longer [][]string
			for _, row := range rows {
				for _, unit := range units {
					longer = append(longer, append(slices.Clone(row), unit))
				}
			}
			for _, row := range longer {
				if agrees(t, row, []string{"x"}) {
					told++
				}
			}
			if rows = longer; t.Failed() {
				return
			}
		}
	}
	if told < 15000 {
		t.Errorf("%d terms", told)
	}
}

// Every text of a few bytes as a word: alone, bound, and free.
func TestP10_1EveryShortWord(t *testing.T) {
	words := []string{"", "Type", "fun", "pi", "le", "i", "a.rec", "a.rec@", "nat", long(19), long(20), long(23), long(19) + ".rec", long(20) + ".rec@"}
	for range 3 {
		var longer []string
		for _, word := range words {
			for _, b := range []string{"a", "n", "t", "Z", "0", "9", "_", ".", "@", "-", "\xe4"} {
				longer = append(longer, word+b)
			}
		}
		for _, word := range longer {
			holdsWord(t, word)
		}
		if words = longer; t.Failed() {
			return
		}
	}
}

// Every byte within words.
func TestP10_1EveryByte(t *testing.T) {
	for b := range 256 {
		s := string([]byte{byte(b)})
		for _, word := range []string{s, "a" + s, s + "a", "a" + s + "a", "Type" + s, "a.rec@" + s, "a.rec" + s + "1", "_" + s} {
			holdsWord(t, word)
		}
	}
}

// holdsWord holds what one word says against the model.
func holdsWord(t *testing.T, word string) {
	t.Helper()
	want := modelAtom(word)
	if got, ok := syntax.Atom(word); !term.Same(got, want) || ok != (want != nil) {
		t.Errorf("atom %q: %s, %v; want %s", word, show(got), ok, show(want))
	}
	agrees(t, []string{word}, nil)
	agrees(t, []string{"a", word}, []string{word, "y"})
	agrees(t, []string{"fun", word, ":", word, "=>", word}, nil)
}

// random is a term of so many nodes at most, with so many variables around it.
func random(r *rand.Rand, nodes, around int) *api.Term {
	if nodes < 3 || r.Intn(9) == 0 {
		if around > 0 && r.Intn(2) == 0 {
			return variable(r.Intn(around))
		}
		return []*api.Term{sort(r.Intn(10)), constant("a"), constant("x"), constant("a.x"), constant("y"), rec("a.rec", r.Intn(10)), rec("x.rec", 0)}[r.Intn(7)]
	}
	if nodes > 3 && r.Intn(4) == 0 {
		n := (nodes - 1) / 3
		return let(random(r, n, around), random(r, n, around), random(r, nodes-1-2*n, around+1))
	}
	left := 1 + r.Intn(nodes-2)
	switch a := random(r, left, around); r.Intn(4) {
	case 0:
		return pi(a, random(r, nodes-1-left, around+1))
	case 1:
		return lam(a, random(r, nodes-1-left, around+1))
	default:
		return app(a, random(r, nodes-1-left, around))
	}
}

// mentions tells whether a term has the variable that is the innermost one around it, or the constant that would be it by that name.
func mentions(t *api.Term, around int, name string) bool {
	if t == nil {
		return false
	}
	if t.Kind == api.TVar && t.N == around || t.Kind == api.TConst && t.Name == name && t.N == 0 {
		return true
	}
	inB, inC := around, around+1
	if t.Kind == api.TPi || t.Kind == api.TLam {
		inB++
	}
	return mentions(t.A, around, name) || mentions(t.B, inB, name) || mentions(t.C, inC, name)
}

// speaker: says terms in one of the many ways in which they may be said.
type speaker struct {
	r     *rand.Rand
	words []string
}

func (s *speaker) say(words ...string) { s.words = append(s.words, words...) }

// brackets says what is said between brackets, where it must be, and now and then where it needn't.
func (s *speaker) brackets(must bool, say func()) {
	deep := 0
	for must && deep == 0 || s.r.Intn(8) == 0 {
		s.say("(")
		deep++
	}
	say()
	for range deep {
		s.say(")")
	}
}

// term says a term; of vars, the innermost last, each that it has must be to be seen.
func (s *speaker) term(t *api.Term, vars []string) {
	s.brackets(false, func() {
		switch t.Kind {
		case api.TPi:
			if !mentions(t.B, 0, "") && s.r.Intn(2) == 0 {
				s.brackets(t.A.Kind == api.TPi || t.A.Kind == api.TLam || t.A.Kind == api.TLet, func() { s.term(t.A, vars) })
				s.say("->")
				s.term(t.B, append(slices.Clone(vars), ""))
				return
			}
			s.binder("pi", []string{":", ","}, t, vars)
		case api.TLam:
			s.binder("fun", []string{":", "=>"}, t, vars)
		case api.TLet:
			s.binder("let", []string{":", ":=", "in"}, t, vars)
		case api.TApp:
			s.brackets(t.A.Kind == api.TPi || t.A.Kind == api.TLam || t.A.Kind == api.TLet, func() { s.term(t.A, vars) })
			s.brackets(t.B.Kind != api.TSort && t.B.Kind != api.TVar && t.B.Kind != api.TConst, func() { s.term(t.B, vars) })
		default:
			s.leaf(t, vars)
		}
	})
}

func (s *speaker) leaf(t *api.Term, vars []string) {
	switch {
	case t.Kind == api.TSort:
		s.say("Type" + strconv.Itoa(t.N))
	case t.Kind == api.TVar:
		s.say(vars[len(vars)-1-t.N])
	case strings.HasSuffix(t.Name, ".rec") && (t.N > 0 || s.r.Intn(2) == 0):
		s.say(t.Name + "@" + strconv.Itoa(t.N))
	default:
		s.say(t.Name)
	}
}

// binder says a binder, by a name that hides nothing that is said under it.
func (s *speaker) binder(keyword string, signs []string, t *api.Term, vars []string) {
	parts := []*api.Term{t.A, t.B, t.C}[:len(signs)]
	name := "v" + strconv.Itoa(len(vars))
	for _, other := range []string{"a", "x", "y", "_", "Type", "x1"} {
		free := !mentions(parts[len(parts)-1], -1, other)
		for i, v := range vars {
			free = free && (v != other || !mentions(parts[len(parts)-1], len(vars)-i, ""))
		}
		if free && s.r.Intn(3) == 0 {
			name = other
		}
	}
	s.say(keyword, name)
	for i, part := range parts {
		s.say(signs[i])
		if i == len(parts)-1 {
			vars = append(slices.Clone(vars), name)
		}
		s.term(part, vars)
	}
}

// However a term is said, it is parsed; and what is printed of it too.
func TestP10_3SaidInManyWays(t *testing.T) {
	r := rand.New(rand.NewSource(10))
	for range 6000 {
		vars := []string{"p", "q_1", "_r"}[:r.Intn(4)]
		x := random(r, 1+r.Intn(90), len(vars))
		s := &speaker{r: r}
		s.term(x, vars)
		parses(t, s.words, vars, x, nil, api.OK)
		behind := []string{")", ",", ".", "in", "=>", ":=", ":", "fun", "_free", "1"}[r.Intn(10)]
		parses(t, append(s.words, behind, "a"), vars, x, []string{behind, "a"}, api.OK)
		refused(t, append(s.words, "->", ")"), vars, api.ErrForm)
		for range vars {
			x = lam(constant("a"), x)
		}
		saidAgain(t, x)
		if t.Failed() {
			return
		}
	}
}

func TestP10_3LargeAreSaid(t *testing.T) {
	r := rand.New(rand.NewSource(1010))
	for range 60 {
		x := random(r, 3000, 0)
		s := &speaker{r: r}
		s.term(x, nil)
		parses(t, s.words, nil, x, nil, api.OK)
		saidAgain(t, x)
	}
}

// Rows of words that are nearly terms: some are taken away, put in, or put elsewhere.
func TestP10_1RandomRows(t *testing.T) {
	r := rand.New(rand.NewSource(101010))
	units := []string{"a", "x", "p", "(", ")", "->", "fun", "pi", "let", ":", ":=", "=>", ",", "in", "_", "Type0", "a.rec@3", "q.x", "@"}
	told, refusals := 0, 0
	for range 20000 {
		vars := []string{"p", "x", "p"}[:r.Intn(4)]
		s := &speaker{r: r}
		s.term(random(r, 1+r.Intn(16), len(vars)), vars)
		if len(s.words) > 40 {
			continue
		}
		for range 1 + r.Intn(3) {
			i, k := r.Intn(len(s.words)), r.Intn(len(s.words))
			switch r.Intn(4) {
			case 0:
				s.words[i] = units[r.Intn(len(units))]
			case 1:
				s.words = slices.Insert(s.words, i, units[r.Intn(len(units))])
			case 2:
				s.words[i], s.words[k] = s.words[k], s.words[i]
			default:
				s.words = append(slices.Delete(s.words, i, i+1), "a")
			}
		}
		if agrees(t, s.words, vars) {
			told++
		} else {
			refusals++
		}
		if t.Failed() {
			return
		}
	}
	if told < 5000 || refusals < 3000 {
		t.Errorf("%d terms, %d refusals", told, refusals)
	}
}
