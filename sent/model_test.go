package sent_test

import (
	"math/rand"
	"regexp"
	"slices"
	"strconv"
	"strings"
	"testing"

	"vademecum/api"
	"vademecum/lex"
	"vademecum/sent"
	"vademecum/syntax"
	"vademecum/term"
)

// tellTerm tells a term, so that two texts are the same just where the terms are; of what has very many nodes only how many.
func tellTerm(t *api.Term) string {
	if t == nil {
		return "-"
	}
	if term.Size(t) > 200 {
		return strconv.Itoa(term.Size(t)) + " nodes"
	}
	return "(" + strconv.Itoa(t.Kind) + " " + strconv.Itoa(t.N) + " " + strconv.Quote(t.Name) + tellTerm(t.A) + tellTerm(t.B) + tellTerm(t.C) + ")"
}

// tell tells a sentence likewise.
func tell(x api.Sentence) string {
	s := strconv.Itoa(x.Kind) + " " + strconv.Itoa(x.N) + " " + strconv.Quote(x.Name) + " " + tellTerm(x.A) + " " + tellTerm(x.B)
	if len(x.Cons) > 50 {
		return s + " " + strconv.Itoa(len(x.Cons)) + " constructors"
	}
	for _, c := range x.Cons {
		s += " [" + strconv.Quote(c.Name) + " " + tellTerm(c.Type) + "]"
	}
	return s
}

// shapes: how a sentence of each Kind is said, where `name`, `N`, `A`, `B` and `Cons` stand for what it has.
var shapes = map[int]string{
	1: "axiom name : A .", 2: "def name : A := B .", 3: "family name N : A { Cons } .", 4: "space name .", 5: "section name .", 6: "var name : A .", 7: "end name .",
	8: "undo N .", 9: "back N .", 10: "mark name .", 11: "restore name .", 12: "commit .", 13: "check A .", 14: "print name .",
}

var (
	aName    = regexp.MustCompile(`\A[a-zA-Z][a-zA-Z0-9_]*(\.[a-zA-Z][a-zA-Z0-9_]*)*\z`)
	aKeyword = regexp.MustCompile(`\A(fun|pi|let|in|Type[0-9])\z`)
	aNumber  = regexp.MustCompile(`\A(0|[1-9][0-9]{0,5})\z`)
	aFamily  = regexp.MustCompile(`\Afamily (\S+) (\S+) : ([^{}]+) \{ (?:([^{}]+) )?\} \.\z`)
	aCon     = regexp.MustCompile(`\A(\S+) : (.+)\z`)
	aTyped   = regexp.MustCompile(`\A(axiom|var) (\S+) : (.+) \.\z`)
	aDef     = regexp.MustCompile(`\Adef (\S+) : (.+) \.\z`)
	aCheck   = regexp.MustCompile(`\Acheck (.+) \.\z`)
	aCommit  = regexp.MustCompile(`\Acommit \.\z`)
	aNamed   = regexp.MustCompile(`\A(space|section|end|mark|restore|print) (\S+) \.\z`)
	aCounted = regexp.MustCompile(`\A(undo|back) (\S+) \.\z`)
)

// modelName tells whether a word is a name.
func modelName(s string) bool {
	return len(s) <= 24 && aName.MatchString(s) && !aKeyword.MatchString(s) && !strings.HasSuffix(s, ".rec")
}

// model: a sentence that is read by its looks, and whether all of it was right.
type model struct {
	x  api.Sentence
	ok bool
}

// named puts a name in.
func (m *model) named(s string) {
	m.x.Name = s
	m.ok = m.ok && modelName(s)
}

// counted puts a number in.
func (m *model) counted(s string) {
	m.x.N, _ = strconv.Atoi(s)
	m.ok = m.ok && aNumber.MatchString(s)
}

// whole is the term that all of a text is; nil, if it is none.
func whole(text string) *api.Term {
	t, rest, err := syntax.Parse(strings.Fields(text), nil)
	if err != nil || len(rest) > 0 {
		return nil
	}
	return t
}

// kindBy is the Kind whose shape begins with a word.
func kindBy(word string) int {
	for kind, shape := range shapes {
		if strings.HasPrefix(shape, word+" ") {
			return kind
		}
	}
	return 0
}

// modelParse is Parse told another way.
func modelParse(s string) (api.Sentence, api.Errno) {
	words, err := lex.Words(s)
	if err != nil {
		return api.Sentence{}, errno(err)
	}
	text := strings.Join(words, " ")
	m := &model{ok: true}
	if p := aTyped.FindStringSubmatch(text); p != nil {
		m.x.Kind = kindBy(p[1])
		m.named(p[2])
		m.x.A = whole(p[3])
		m.ok = m.ok && m.x.A != nil
	} else if p := aDef.FindStringSubmatch(text); p != nil {
		m.x.Kind = api.SDef
		m.named(p[1])
		m.split(p[2])
	} else if p := aFamily.FindStringSubmatch(text); p != nil {
		m.x.Kind = api.SFamily
		m.named(p[1])
		m.counted(p[2])
		m.x.A = whole(p[3])
		m.ok = m.ok && m.x.A != nil
		m.cons(p[4])
	} else if p := aCheck.FindStringSubmatch(text); p != nil {
		m.x.Kind = api.SCheck
		m.x.A = whole(p[1])
		m.ok = m.x.A != nil
	} else if p := aNamed.FindStringSubmatch(text); p != nil {
		m.x.Kind = kindBy(p[1])
		m.named(p[2])
	} else if p := aCounted.FindStringSubmatch(text); p != nil {
		m.x.Kind = kindBy(p[1])
		m.counted(p[2])
	} else if aCommit.MatchString(text) {
		m.x.Kind = api.SCommit
	} else {
		m.ok = false
	}
	if !m.ok {
		return api.Sentence{}, api.ErrForm
	}
	return m.x, api.OK
}

// split puts a definition's two terms in: wherever they part, if both are terms.
func (m *model) split(text string) {
	ways := 0
	words := strings.Fields(text)
	for i, word := range words {
		if word != ":=" {
			continue
		}
		a, b := whole(strings.Join(words[:i], " ")), whole(strings.Join(words[i+1:], " "))
		if a != nil && b != nil {
			m.x.A, m.x.B = a, b
			ways++
		}
	}
	if ways > 1 {
		panic("two ways to part " + text)
	}
	m.ok = m.ok && ways == 1
}

// cons puts constructors in.
func (m *model) cons(text string) {
	if text == "" {
		return
	}
	for _, part := range strings.Split(text, " ; ") {
		p := aCon.FindStringSubmatch(part)
		if p == nil || !modelName(p[1]) || whole(p[2]) == nil {
			m.ok = false
			return
		}
		m.x.Cons = append(m.x.Cons, con(p[1], whole(p[2])))
	}
}

// modelPrint is Print told another way.
func modelPrint(x api.Sentence) string {
	shape, ok := shapes[x.Kind]
	if !ok {
		return ""
	}
	var said []string
	rest := x
	rest.Kind = 0
	for _, word := range strings.Fields(shape) {
		text := word
		switch word {
		case "name":
			text = x.Name
			ok = ok && modelName(text)
			rest.Name = ""
		case "N":
			text = strconv.Itoa(x.N)
			ok = ok && aNumber.MatchString(text)
			rest.N = 0
		case "A":
			text = syntax.Print(x.A)
			ok = ok && text != ""
			rest.A = nil
		case "B":
			text = syntax.Print(x.B)
			ok = ok && text != ""
			rest.B = nil
		case "Cons":
			text = ""
			for i, c := range x.Cons {
				if i > 0 {
					text += " ; "
				}
				ok = ok && modelName(c.Name) && syntax.Print(c.Type) != ""
				text += c.Name + " : " + syntax.Print(c.Type)
			}
			rest.Cons = nil
		}
		if text != "" {
			said = append(said, text)
		}
	}
	if !ok || !isZero(rest) {
		return ""
	}
	return strings.Join(said, " ")
}

// agrees holds Parse against the model, and tells whether the text is a sentence.
func agrees(t *testing.T, text string) bool {
	t.Helper()
	want, why := modelParse(text)
	x, err := sent.Parse(text)
	if errno(err) != why || (err == nil) != (why == api.OK) || tell(x) != tell(want) || !sent.Same(x, want) {
		t.Errorf("%q: %s, %v; want %s, %v", text, tell(x), err, tell(want), why)
	}
	return err == nil
}

// Every row of a few words, also behind what is begun.
func TestP21_1EveryShortRow(t *testing.T) {
	units := []string{"axiom", "undo", "commit", "check", "a", "1", "fun", ":", ":=", "{", "}", ";", ".", "(", ")"}
	told := 0
	for _, ahead := range []string{"", "axiom a", "axiom a : a", "def a : a", "def a : let a : a := a in", "family a", "family a 1 : a", "family a 1 : a {", "family a 1 : a { a : a", "family a 1 : a { a : a ;", "check", "undo"} {
		layer := []string{ahead}
		for range 4 {
			var longer []string
			for _, text := range layer {
				for _, unit := range units {
					longer = append(longer, text+" "+unit)
				}
			}
			for _, text := range longer {
				if agrees(t, text) {
					told++
				}
			}
			if layer = longer; t.Failed() {
				return
			}
		}
	}
	if told < 200 {
		t.Errorf("%d sentences", told)
	}
}

// Every text of a few bytes.
func TestP21_1EveryShortText(t *testing.T) {
	for _, ends := range [][2]string{{"", ""}, {"commit", ""}, {"undo ", "."}, {"axiom ", ":a."}, {"family a 0:a{", "}."}} {
		layer := []string{""}
		for range 4 {
			var longer []string
			for _, text := range layer {
				for _, b := range []string{"a", "1", "0", ".", " ", ":", "=", "-", ">", "(", ")", "_", "@", ";"} {
					longer = append(longer, text+b)
				}
			}
			for _, text := range longer {
				agrees(t, ends[0]+text+ends[1])
			}
			if layer = longer; t.Failed() {
				return
			}
		}
	}
}

// names are some that may stand in sentences.
var names = []string{"a", "b", "a.b", "f", "x", "undo", "commit", "Type", "rec", "a.fun", "aaaaaaaaaaaaaaaaaaaaaaaa"}

// wrongNames are some that may not.
var wrongNames = []string{"", "fun", "Type3", "a.rec", "1", "_", "a b", ".", "aaaaaaaaaaaaaaaaaaaaaaaaa"}

// random is a term of so many nodes at most, with so many variables around it.
func random(r *rand.Rand, nodes, around int) *api.Term {
	if nodes < 3 || r.Intn(9) == 0 {
		if around > 0 && r.Intn(2) == 0 {
			return variable(r.Intn(around))
		}
		return []*api.Term{sort(r.Intn(10)), constant(names[r.Intn(len(names))]), constant("a"), rec("a.rec", r.Intn(10))}[r.Intn(4)]
	}
	if nodes > 3 && r.Intn(4) == 0 {
		n := (nodes - 1) / 3
		return let(random(r, n, around), random(r, n, around), random(r, nodes-1-2*n, around+1))
	}
	left := 1 + r.Intn(nodes-2)
	switch a := random(r, left, around); r.Intn(4) {
	case 0:
		return pi(a, random(r, nodes-1-left, around+1))
	case 1:
		return lam(a, random(r, nodes-1-left, around+1))
	default:
		return app(a, random(r, nodes-1-left, around))
	}
}

// randomSentence is one that Parse could tell, but perhaps for its length.
func randomSentence(r *rand.Rand, nodes int) api.Sentence {
	x := api.Sentence{Kind: 1 + r.Intn(14)}
	if r.Intn(3) == 0 {
		x.Kind = []int{api.SDef, api.SFamily}[r.Intn(2)]
	}
	for _, word := range strings.Fields(shapes[x.Kind]) {
		switch word {
		case "name":
			x.Name = names[r.Intn(len(names))]
		case "N":
			x.N = r.Intn(1000000)
			for r.Intn(2) == 0 {
				x.N /= 10
			}
		case "A":
			x.A = random(r, 1+r.Intn(nodes), 0)
		case "B":
			x.B = random(r, 1+r.Intn(nodes), 0)
		case "Cons":
			for r.Intn(3) > 0 {
				x.Cons = append(x.Cons, con(names[r.Intn(len(names))], random(r, 1+r.Intn(nodes), 0)))
			}
		}
	}
	return x
}

// spoilt is a sentence with one part changed.
func spoilt(r *rand.Rand, x api.Sentence) api.Sentence {
	t := []*api.Term{nil, {}, variable(0), sort(10), sort(0), constant("fun"), lam(sort(0), variable(1)), random(r, 5, 1)}[r.Intn(8)]
	name := append(slices.Clone(names), wrongNames...)[r.Intn(len(names)+len(wrongNames))]
	x.Cons = slices.Clone(x.Cons)
	switch r.Intn(8) {
	case 0:
		x.Kind = r.Intn(17) - 1
	case 1:
		x.Name = name
	case 2:
		x.N = []int{-1, 0, 1, 999999, 1000000}[r.Intn(5)]
	case 3:
		x.A = t
	case 4:
		x.B = t
	case 5:
		x.Cons = append(x.Cons, con(name, t))
	case 6:
		if len(x.Cons) > 0 {
			x.Cons[r.Intn(len(x.Cons))].Name = name
		}
	case 7:
		if len(x.Cons) > 0 {
			x.Cons[r.Intn(len(x.Cons))].Type = t
		}
	}
	return x
}

// loose is a row of words said with all kinds of blanks between, and none where none is needed.
func loose(r *rand.Rand, words []string) string {
	text := ""
	for i, word := range words {
		blank := ""
		for r.Intn(3) == 0 {
			blank += []string{" ", "\t", "\n", "\r"}[r.Intn(4)]
		}
		if l, err := lex.Words(text + blank + word); err != nil || !slices.Equal(l, words[:i+1]) {
			blank += " "
		}
		text += blank + word
	}
	if l, err := lex.Words(text); err != nil || !slices.Equal(l, words) {
		return strings.Join(words, " ")
	}
	return text
}

// What is printed is parsed, however it is said, and what isn't a sentence isn't printed.
func TestP21_2RandomSentences(t *testing.T) {
	r := rand.New(rand.NewSource(21))
	printed, refused := 0, 0
	for range 20000 {
		x := randomSentence(r, 12)
		holds(t, r, x)
		for range 3 {
			x = spoilt(r, x)
			if holds(t, r, x) {
				printed++
			} else {
				refused++
			}
		}
		if t.Failed() {
			return
		}
	}
	if printed < 5000 || refused < 5000 {
		t.Errorf("%d printed, %d refused", printed, refused)
	}
}

// holds holds Print against the model, and what it tells against Parse; it tells whether that was anything.
func holds(t *testing.T, r *rand.Rand, x api.Sentence) bool {
	t.Helper()
	text := sent.Print(x)
	if want := modelPrint(x); text != want {
		t.Errorf("%s: %q, want %q", tell(x), text, want)
	}
	if text == "" {
		return false
	}
	for _, s := range []string{text, loose(r, strings.Fields(text))} {
		y, err := sent.Parse(s)
		switch {
		case len(s) > api.MaxLine:
			if errno(err) != api.ErrLarge || !isZero(y) {
				t.Errorf("%d bytes: %s, %v", len(s), tell(y), err)
			}
		case err != nil || !sent.Same(x, y) || tell(x) != tell(y) || sent.Print(y) != text:
			t.Errorf("%q: %s, %v", s, tell(y), err)
		}
	}
	return true
}

// Longer ones, of which some are longer than a line.
func TestP21_2RandomLongSentences(t *testing.T) {
	r := rand.New(rand.NewSource(212))
	for range 600 {
		holds(t, r, randomSentence(r, 300))
	}
	for range 20 {
		holds(t, r, randomSentence(r, 3000))
	}
}

// Sentences whose words are left out, put in, changed, turned round.
func TestP21_1SpoiltRows(t *testing.T) {
	r := rand.New(rand.NewSource(211))
	units := append(slices.Clone(names), "axiom", "def", "family", "var", "check", "print", "1", "0", "01", "fun", "pi", "let", "in", "a.rec", "a.rec@1", "Type0", "_0", ":", ":=", "=>", "->", ",", ";", ".", "(", ")", "{", "}")
	told, refused := 0, 0
	for range 60000 {
		words := strings.Fields(sent.Print(randomSentence(r, 6)))
		for range 1 + r.Intn(2) {
			i := r.Intn(len(words))
			switch r.Intn(5) {
			case 0:
				words = slices.Delete(words, i, i+1)
			case 1:
				words = slices.Insert(words, i, units[r.Intn(len(units))])
			case 2:
				words[i] = units[r.Intn(len(units))]
			case 3:
				j := r.Intn(len(words))
				words[i], words[j] = words[j], words[i]
			case 4:
				words = append(words, words[i:]...)
			}
			if len(words) == 0 {
				words = []string{"."}
			}
		}
		if agrees(t, strings.Join(words, " ")) {
			told++
		} else {
			refused++
		}
		if t.Failed() {
			return
		}
	}
	if told < 3000 || refused < 3000 {
		t.Errorf("%d sentences, %d are none", told, refused)
	}
}
