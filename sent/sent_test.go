package sent_test

import (
	"errors"
	"math"
	"strings"
	"testing"

	"vademecum/api"
	"vademecum/lex"
	"vademecum/sent"
	"vademecum/syntax"
)

func sort(n int) *api.Term { return &api.Term{Kind: api.TSort, N: n} }

func variable(n int) *api.Term { return &api.Term{Kind: api.TVar, N: n} }

func constant(name string) *api.Term { return &api.Term{Kind: api.TConst, Name: name} }

func rec(name string, n int) *api.Term { return &api.Term{Kind: api.TConst, Name: name, N: n} }

func pi(a, b *api.Term) *api.Term { return &api.Term{Kind: api.TPi, A: a, B: b} }

func lam(a, b *api.Term) *api.Term { return &api.Term{Kind: api.TLam, A: a, B: b} }

func let(a, b, c *api.Term) *api.Term { return &api.Term{Kind: api.TLet, A: a, B: b, C: c} }

func app(f *api.Term, l ...*api.Term) *api.Term {
	for _, x := range l {
		f = &api.Term{Kind: api.TApp, A: f, B: x}
	}
	return f
}

// con is a constructor.
func con(name string, t *api.Term) api.Con { return api.Con{Name: name, Type: t} }

// long is a name of so many bytes.
func long(n int) string { return strings.Repeat("a", n) }

// errno is the number that an error wraps.
func errno(err error) api.Errno {
	var no api.Errno
	errors.As(err, &no)
	return no
}

// isZero tells whether nothing at all is in a sentence.
func isZero(x api.Sentence) bool {
	return x.Kind == 0 && x.N == 0 && x.Name == "" && x.A == nil && x.B == nil && len(x.Cons) == 0
}

// row: a sentence as it is printed, and what it says.
type row struct {
	text string
	x    api.Sentence
}

// rows are sentences of every Kind.
func rows() []row {
	a, b := constant("a"), constant("b")
	return []row{
		{"axiom a : Type0 .", api.Sentence{Kind: api.SAxiom, Name: "a", A: sort(0)}},
		{"axiom a.b_1 : a b a .", api.Sentence{Kind: api.SAxiom, Name: "a.b_1", A: app(a, b, a)}},
		{"axiom axiom : axiom .", api.Sentence{Kind: api.SAxiom, Name: "axiom", A: constant("axiom")}},
		{"axiom rec : f.rec@0 .", api.Sentence{Kind: api.SAxiom, Name: "rec", A: constant("f.rec")}},
		{"axiom Type10 : Type9 .", api.Sentence{Kind: api.SAxiom, Name: "Type10", A: sort(9)}},
		{"axiom a.fun : pi _0 : a , _0 .", api.Sentence{Kind: api.SAxiom, Name: "a.fun", A: pi(a, variable(0))}},
		{"var x : A .", api.Sentence{Kind: api.SVar, Name: "x", A: constant("A")}},
		{"var var : pi _0 : Type0 , pi _1 : _0 , _0 .", api.Sentence{Kind: api.SVar, Name: "var", A: pi(sort(0), pi(variable(0), variable(1)))}},
		{"def a : b := a .", api.Sentence{Kind: api.SDef, Name: "a", A: b, B: a}},
		{"def def : let _0 : a := b in _0 := let _0 : b := a in _0 .", api.Sentence{Kind: api.SDef, Name: "def", A: let(a, b, variable(0)), B: let(b, a, variable(0))}},
		{"def Fun : a ( pi _0 : a , b ) := fun _0 : a => b ( a _0 ) .", api.Sentence{Kind: api.SDef, Name: "Fun", A: app(a, pi(a, b)), B: lam(a, app(b, app(a, variable(0))))}},
		{"family f 0 : Type0 { } .", api.Sentence{Kind: api.SFamily, Name: "f", A: sort(0)}},
		{"family f 12 : Type1 { c : f } .", api.Sentence{Kind: api.SFamily, Name: "f", N: 12, A: sort(1), Cons: []api.Con{con("c", constant("f"))}}},
		{"family f.g 999999 : f { f.g : a ; f.g : b } .", api.Sentence{Kind: api.SFamily, Name: "f.g", N: 999999, A: constant("f"), Cons: []api.Con{con("f.g", a), con("f.g", b)}}},
		{"family family 1 : let _0 : a := b in a { family : let _0 : a := a in _0 ; c : a ( a b ) ; d : pi _0 : a , b } .", api.Sentence{Kind: api.SFamily, Name: "family", N: 1, A: let(a, b, a), Cons: []api.Con{con("family", let(a, a, variable(0))), con("c", app(a, app(a, b))), con("d", pi(a, b))}}},
		{"family f 2 : a { a : a ; b : a ; c : a ; d : a ; e : a ; f : a ; g : a ; h : a ; i : a ; j : a } .", api.Sentence{Kind: api.SFamily, Name: "f", N: 2, A: a, Cons: []api.Con{con("a", a), con("b", a), con("c", a), con("d", a), con("e", a), con("f", a), con("g", a), con("h", a), con("i", a), con("j", a)}}},
		{"space a .", api.Sentence{Kind: api.SSpace, Name: "a"}},
		{"space a.b.c .", api.Sentence{Kind: api.SSpace, Name: "a.b.c"}},
		{"section section .", api.Sentence{Kind: api.SSection, Name: "section"}},
		{"end end .", api.Sentence{Kind: api.SEnd, Name: "end"}},
		{"undo 0 .", api.Sentence{Kind: api.SUndo}},
		{"undo 1 .", api.Sentence{Kind: api.SUndo, N: 1}},
		{"undo 10 .", api.Sentence{Kind: api.SUndo, N: 10}},
		{"undo 999999 .", api.Sentence{Kind: api.SUndo, N: 999999}},
		{"back 0 .", api.Sentence{Kind: api.SBack}},
		{"back 100000 .", api.Sentence{Kind: api.SBack, N: 100000}},
		{"mark mark .", api.Sentence{Kind: api.SMark, Name: "mark"}},
		{"restore " + long(24) + " .", api.Sentence{Kind: api.SRestore, Name: long(24)}},
		{"commit .", api.Sentence{Kind: api.SCommit}},
		{"check commit .", api.Sentence{Kind: api.SCheck, A: constant("commit")}},
		{"check fun _0 : a => pi _1 : _0 , f.rec@9 _1 .", api.Sentence{Kind: api.SCheck, A: lam(a, pi(variable(0), app(rec("f.rec", 9), variable(0))))}},
		{"print print .", api.Sentence{Kind: api.SPrint, Name: "print"}},
		{"print Typea.Type0 .", api.Sentence{Kind: api.SPrint, Name: "Typea.Type0"}},
	}
}

// saidOtherwise are sentences as they aren't printed, each with how it is.
func saidOtherwise() []row {
	return []row{
		{"axiom a:b->c.", row1("axiom a : pi _0 : b , c .")},
		{"axiom\ta\n:\rb .", row1("axiom a : b .")},
		{"\r\n\t axiom a : b . \t\r\n", row1("axiom a : b .")},
		{"axiom a:(((b))).", row1("axiom a : b .")},
		{"axiom a : pi x : b, x .", row1("axiom a : pi _0 : b , _0 .")},
		{"axiom x : pi x : x, x .", row1("axiom x : pi _0 : x , _0 .")},
		{"axiom a : f.rec .", row1("axiom a : f.rec@0 .")},
		{"var a:b.", row1("var a : b .")},
		{"def a:b:=c.", row1("def a : b := c .")},
		{"def a:let x:b:=c in x:=let x:b:=c in x.", row1("def a : let _0 : b := c in _0 := let _0 : b := c in _0 .")},
		{"family f 0:Type0{}.", row1("family f 0 : Type0 { } .")},
		{"family f 0:Type0{a:f;b:f->f}.", row1("family f 0 : Type0 { a : f ; b : pi _0 : f , f } .")},
		{"family f 3 : (Type0) {\n a : f;\n b : (f)\n}.\n", row1("family f 3 : Type0 { a : f ; b : f } .")},
		{"undo 7.", row1("undo 7 .")},
		{" commit.", row1("commit .")},
		{"check a(b).", row1("check a b .")},
		{"check a.b.", row1("check a.b .")},
		{"print a.b.", row1("print a.b .")},
	}
}

// row1 is what the sentence says that is printed so.
func row1(text string) api.Sentence {
	x, err := sent.Parse(text)
	if err != nil || sent.Print(x) != text {
		panic(text)
	}
	return x
}

// term1 is the term that is said so.
func term1(t *testing.T, text string) *api.Term {
	t.Helper()
	words, err := lex.Words(text)
	if err != nil {
		t.Fatalf("%q: %v", text, err)
	}
	x, rest, err := syntax.Parse(words, nil)
	if err != nil || len(rest) > 0 {
		t.Fatalf("%q: %v, %q behind", text, err, rest)
	}
	return x
}

func TestP21_1Parse(t *testing.T) {
	for _, row := range append(rows(), saidOtherwise()...) {
		x, err := sent.Parse(row.text)
		if err != nil || !sent.Same(x, row.x) || !sent.Same(row.x, x) || tell(x) != tell(row.x) {
			t.Errorf("%q: %s, %v", row.text, tell(x), err)
		}
	}
}

func TestP21_1PrintIsWhatIsSaid(t *testing.T) {
	for _, row := range rows() {
		if got := sent.Print(row.x); got != row.text {
			t.Errorf("%q: %q", row.text, got)
		}
	}
	if got := sent.Print(api.Sentence{Kind: api.SCommit, Cons: []api.Con{}}); got != "commit ." {
		t.Errorf("an empty list: %q", got)
	}
	if got := sent.Print(api.Sentence{Kind: api.SFamily, Name: "f", A: sort(0), Cons: []api.Con{}}); got != "family f 0 : Type0 { } ." {
		t.Errorf("an empty list of constructors: %q", got)
	}
}

// refused holds that a text isn't a sentence, with that number.
func refused(t *testing.T, text string, why api.Errno) {
	t.Helper()
	x, err := sent.Parse(text)
	if err == nil || !errors.Is(err, why) || errno(err) != why || !isZero(x) || err.Error() == "" {
		t.Errorf("%.80q: %s, %v; want %v", text, tell(x), err, why)
	}
}

func TestP21_1ParseWrong(t *testing.T) {
	for _, text := range []string{
		"", " ", "\n", ".", ". .", "commit", ". commit", "commit . .", "commit . commit .", "commit commit .", "commit a .", "commit 1 .", "commit ;", "commit ,", "commit : .",
		"Commit .", "COMMIT .", "commi .", "commits .", "a .", "a : b .", "1 .", "( commit ) .", "fun .", "pi a : b , c .", "Type0 .", "kind .", "theorem a : b .", "lemma a : b .", "a.b .",
		"axiom", "axiom .", "axiom a", "axiom a .", "axiom a :", "axiom a : .", "axiom a : b", "axiom : b .", "axiom a b .", "axiom a := b .", "axiom a : : b .", "axiom a : b : c .", "axiom a : b := c .", "axiom a : b , .", "axiom a : b ; .",
		"axiom a : b . .", "axiom a : b . x", "axiom a : b }", "axiom a : b ) .", "axiom a : ( b .", "axiom a : b -> .", "axiom a : ( ) .", "axiom a : fun .", "axiom a : fun x => x .", "axiom a : pi x : b .", "axiom a : let x : b := c .", "axiom a : let x : b := c in .",
		"axiom a : _0 .", "axiom a : 1 .", "axiom a : b@1 .", "axiom a : f.rec@ .", "axiom a : f.rec@10 .", "axiom a : pi Type0 : b , c .", "axiom a : b . commit .", "axiom a 0 : b .", "axiom ( a ) : b .", "axiom a b : c .",
		"var", "var x .", "var x : .", "var x : b", "var x : b := c .", "var 0 : b .", "var : b .",
		"def", "def a .", "def a : b .", "def a := b .", "def a : := b .", "def a : b := .", "def a : b := c", "def a : b : c .", "def a : b = c .", "def a : b := c := d .", "def a : let x : b := c .", "def a : let x : b := c := d .", "def 1 : b := c .", "def a : b := c . .", "def a : b := c -> .", "def a : b := ( c .", "def a : b => c .",
		"family", "family f .", "family f 0 .", "family f 0 : .", "family f 0 : a .", "family f 0 : a {", "family f 0 : a { .", "family f 0 : a { }", "family f 0 : a } .", "family f 0 a { } .", "family f 0 { } .", "family f 0 : { } .", "family f : a { } .", "family 0 : a { } .", "family 0 f : a { } .", "family f a : a { } .", "family f 0 0 : a { } .",
		"family f 0 : a { ; } .", "family f 0 : a { ; c : a } .", "family f 0 : a { c : a ; } .", "family f 0 : a { c : a ; ; d : a } .", "family f 0 : a { c : a d : a } .", "family f 0 : a { c : a , d : a } .", "family f 0 : a { c : a . d : a } .", "family f 0 : a { c } .", "family f 0 : a { c : } .", "family f 0 : a { : a } .", "family f 0 : a { c a } .", "family f 0 : a { c := a } .",
		"family f 0 : a { 1 : a } .", "family f 0 : a { fun : a } .", "family f 0 : a { c.rec : a } .", "family f 0 : a { c : ( a } .", "family f 0 : a { c : a } . .", "family f 0 : a { c : a } }", "family f 0 : a { c : a } ; .", "family f 0 : a { { } } .", "family f 0 : a { } { } .", "family f 0 := a { } .", "family f 0 : a ( c : a ) .", "family f 0 : a { c 0 : a } .", "family f 0 : a { c : a : a } .", "family f 0 : a { c : a := a } .",
		"space", "space .", "space a", "space a b .", "space 1 .", "space a : b .", "space a . .", "section .", "section a b .", "section fun .", "end .", "end", "end 1 .", "end a a .", "mark .", "mark in .", "mark 1 .", "mark a b .", "restore .", "restore let .", "restore a a .",
		"undo", "undo .", "undo a .", "undo 1", "undo 1 2 .", "undo 1 a .", "undo 1 : .", "undo Type1 .", "back .", "back a .", "back 1 1 .", "back", "back 1 . .", "undo ( 1 ) .",
		"check", "check .", "check a", "check a : b .", "check a := b .", "check a , .", "check ( .", "check ( a .", "check a ( .", "check a ) .", "check fun x : a .", "check _ .", "check a . b .", "check x : a => x .",
		"print", "print .", "print 1 .", "print a b .", "print f.rec .", "print f.rec@0 .", "print a : b .", "print Type0 .", "print ( a ) .",
	} {
		refused(t, text, api.ErrForm)
	}
}

// namePlaces are texts in which a name stands, and the one that comes out.
func namePlaces(name string) []row {
	a := constant("a")
	return []row{
		{"axiom " + name + " : a .", api.Sentence{Kind: api.SAxiom, Name: name, A: a}},
		{"var " + name + " : a .", api.Sentence{Kind: api.SVar, Name: name, A: a}},
		{"def " + name + " : a := a .", api.Sentence{Kind: api.SDef, Name: name, A: a, B: a}},
		{"family " + name + " 1 : a { } .", api.Sentence{Kind: api.SFamily, Name: name, N: 1, A: a}},
		{"family a 1 : a { " + name + " : a } .", api.Sentence{Kind: api.SFamily, Name: "a", N: 1, A: a, Cons: []api.Con{con(name, a)}}},
		{"family a 1 : a { a : a ; " + name + " : a } .", api.Sentence{Kind: api.SFamily, Name: "a", N: 1, A: a, Cons: []api.Con{con("a", a), con(name, a)}}},
		{"space " + name + " .", api.Sentence{Kind: api.SSpace, Name: name}},
		{"section " + name + " .", api.Sentence{Kind: api.SSection, Name: name}},
		{"end " + name + " .", api.Sentence{Kind: api.SEnd, Name: name}},
		{"mark " + name + " .", api.Sentence{Kind: api.SMark, Name: name}},
		{"restore " + name + " .", api.Sentence{Kind: api.SRestore, Name: name}},
		{"print " + name + " .", api.Sentence{Kind: api.SPrint, Name: name}},
	}
}

// agree holds that each text says its sentence, or that none does, and no sentence is printed.
func agree(t *testing.T, l []row, ok bool) {
	t.Helper()
	for _, row := range l {
		x, err := sent.Parse(row.text)
		text := sent.Print(row.x)
		switch {
		case ok && (err != nil || !sent.Same(x, row.x) || text != row.text):
			t.Errorf("%q: %s, %v; printed %q", row.text, tell(x), err, text)
		case !ok && (errno(err) != api.ErrForm || !isZero(x) || text != ""):
			t.Errorf("%q: %s, %v; printed %q", row.text, tell(x), err, text)
		}
	}
}

func TestP21_1Names(t *testing.T) {
	for _, name := range []string{"a", "Z", "a0", "a_", "a.b", "a.b.c", "rec", "a.rec.b", "a_rec", "arec", "a.Rec", "a.recs", "Fun", "fun_", "funs", "a.fun", "fun.a", "pi.let.in", "Type", "Type10", "Type00", "Type_", "Types", "Type0.a", "a.Type0", "type0", "undo", "commit", "axiom", "family", "print", long(24), long(20) + ".reb", long(11) + "." + long(12)} {
		agree(t, namePlaces(name), true)
	}
	for _, name := range []string{"", "0", "12", "1a", "_", "_0", "_a", "a.1", "a._", "a.rec", "a.b.rec", "rec.rec", "fun.rec", "a.rec@0", "a.rec@3", "a@", "@", "@a", "a@b", "fun", "pi", "let", "in", "Type0", "Type1", "Type5", "Type9", ":", ":=", "=>", "->", ",", ";", "(", ")", "{", "}", ".", "a .", "a.", ".a", "a..b", "a b", " a", "a-b", "a\x00", "é", "\xff", long(25), long(20) + ".rec", long(21) + ".rec", long(12) + "." + long(12), "a : a . axiom b"} {
		for _, row := range namePlaces(name) {
			if text := sent.Print(row.x); text != "" {
				t.Errorf("%q: %q", name, text)
			}
			// These are other sentences, or other blanks.
			if name != " a" && name != "a." && name != "a : a . axiom b" {
				refused(t, row.text, api.ErrForm)
			}
		}
	}
}

func TestP21_1Numbers(t *testing.T) {
	places := func(number string, n int) []row {
		return []row{
			{"undo " + number + " .", api.Sentence{Kind: api.SUndo, N: n}},
			{"back " + number + " .", api.Sentence{Kind: api.SBack, N: n}},
			{"family a " + number + " : a { } .", api.Sentence{Kind: api.SFamily, Name: "a", N: n, A: constant("a")}},
		}
	}
	for number, n := range map[string]int{"0": 0, "1": 1, "9": 9, "10": 10, "19": 19, "90": 90, "100": 100, "1000": 1000, "99999": 99999, "100000": 100000, "123456": 123456, "999998": 999998, "999999": 999999} {
		agree(t, places(number, n), true)
	}
	for number, n := range map[string]int{"1000000": 1000000, "1234567": 1234567, "-1": -1, "-999999": -999999, "4294967296": 1 << 32, "18446744073709551616": math.MaxInt, "9223372036854775807": math.MaxInt, "9223372036854775808": math.MinInt, "-9223372036854775808": math.MinInt} {
		agree(t, places(number, n), false)
	}
	for _, number := range []string{"", "00", "01", "000000", "0000001", "0123456", "000001", "+1", "-0", "1.0", "1.", "0x1", "0b1", "0o7", "1e3", "1_000", "_1", "1_", "1@", "@1", "a", "a1", "1a", "f", "Type1", "( 1 )", "1 0", "1 , 0", "١", "１", strings.Repeat("9", 300), "0" + strings.Repeat("0", 300)} {
		for _, row := range places(number, 0) {
			if number != "1." || strings.HasPrefix(row.text, "family") {
				refused(t, row.text, api.ErrForm)
			}
		}
	}
}

// Every number that may be said, and some that may not.
func TestP21_1EveryNumber(t *testing.T) {
	for n := 0; n < 1000000; n += 1 + n/500 {
		x := api.Sentence{Kind: api.SBack, N: n}
		if y, err := sent.Parse(sent.Print(x)); err != nil || !sent.Same(x, y) {
			t.Fatalf("%d: %s, %v", n, tell(y), err)
		}
	}
	for n := 1000000; n > 0; n += n / 3 {
		for _, n := range []int{n, -n} {
			if got := sent.Print(api.Sentence{Kind: api.SUndo, N: n}); got != "" {
				t.Fatalf("%d: %q", n, got)
			}
		}
	}
}

func TestP21_1LexErrors(t *testing.T) {
	for _, text := range []string{"commit - .", "commit .-", "-", "commit = .", "axiom a : b > c .", "axiom a : b - c .", "commit .\x00", "é .", "commit .\xff", "axiom a : \"b\" .", "axiom a : b | c .", "commit .\v", "commit .\f", "commit .\u00a0", "undo -1 .", "undo +1 ."} {
		refused(t, text, api.ErrForm)
	}
	for _, text := range []string{
		strings.Repeat(" ", 2001), "commit ." + strings.Repeat(" ", 1993), strings.Repeat(" ", 1993) + "commit .", strings.Repeat("-", 2001), "commit - ." + strings.Repeat(" ", 2000), strings.Repeat("\xff", 5000), "check " + long(25) + strings.Repeat(" a", 1000) + " .", "check a" + strings.Repeat(" a", 1500) + " .", strings.Repeat("commit .", 251), "axiom " + long(2001) + " : a .",
	} {
		refused(t, text, api.ErrLarge)
	}
	for _, text := range []string{"commit ." + strings.Repeat(" ", 1992), strings.Repeat("\n", 1992) + "commit ."} {
		if x, err := sent.Parse(text); err != nil || x.Kind != api.SCommit {
			t.Errorf("%d bytes: %s, %v", len(text), tell(x), err)
		}
	}
	refused(t, strings.Repeat("commit .", 250), api.ErrForm)
	refused(t, strings.Repeat(" ", 2000), api.ErrForm)
}

// An error tells the place, wraps the number, and of lex and syntax theirs.
func TestP21_1Errors(t *testing.T) {
	for text, want := range map[string]string{
		"":                               `sent: word 0: no sentence: error 10`,
		"lemma":                          `sent: word 0: no sentence: error 10`,
		"axiom fun : a .":                `sent: word 1: no name: error 10`,
		"axiom a a .":                    `sent: word 2: no ":": error 10`,
		"undo 01 .":                      `sent: word 1: no number: error 10`,
		"commit":                         `sent: word 1: no ".": error 10`,
		"commit . a":                     `sent: word 2: no end: error 10`,
		"family a 0 : a { a : a a : a }": `sent: word 10: no ";": error 10`,
		"axiom a : ( b .":                `sent: word 3: no term: syntax: `,
		"commit -":                       `sent: no line: lex: `,
		strings.Repeat(" ", 2001):        `sent: too large a line: lex: `,
	} {
		if _, err := sent.Parse(text); err == nil || !strings.HasPrefix(err.Error(), want) {
			t.Errorf("%.40q: %v", text, err)
		}
	}
}

// Of each Kind what it has has to be there and be right, and what it doesn't have must not be there.
func TestP21_1PrintWrong(t *testing.T) {
	some := con("c", sort(0))
	for kind := -2; kind < 20; kind++ {
		has := map[int]string{api.SAxiom: "nA", api.SVar: "nA", api.SDef: "nAB", api.SFamily: "nNAc", api.SSpace: "n", api.SSection: "n", api.SEnd: "n", api.SMark: "n", api.SRestore: "n", api.SPrint: "n", api.SUndo: "N", api.SBack: "N", api.SCommit: "", api.SCheck: "A"}
		parts, isKind := has[kind]
		for fields := range 32 {
			x := api.Sentence{Kind: kind}
			ok := isKind
			for i, part := range "nNABc" {
				there := fields>>i&1 > 0
				mine := strings.ContainsRune(parts, part)
				mayLack := part == 'N' || part == 'c'
				ok = ok && (there == mine || mine && mayLack)
				if !there {
					continue
				}
				switch part {
				case 'n':
					x.Name = "a"
				case 'N':
					x.N = 3
				case 'A':
					x.A = sort(1)
				case 'B':
					x.B = sort(2)
				case 'c':
					x.Cons = []api.Con{some}
				}
			}
			if got := sent.Print(x); (got != "") != ok {
				t.Errorf("%s: %q", tell(x), got)
			}
		}
	}
	for _, kind := range []int{math.MinInt, math.MaxInt, -1, 0, 15, 1 << 32} {
		if got := sent.Print(api.Sentence{Kind: kind, Name: "a"}); got != "" {
			t.Errorf("Kind %d: %q", kind, got)
		}
	}
}

// A term that is none, or has variables around, is printed nowhere.
func TestP21_1PrintWrongTerms(t *testing.T) {
	a := constant("a")
	for _, wrong := range []*api.Term{nil, {}, variable(0), variable(5), lam(a, variable(1)), sort(10), sort(-1), constant(""), constant("fun"), constant("Type0"), constant("a b"), constant(long(25)), rec("a", 1), rec("a.rec", 10), {Kind: api.TPi, A: a}, {Kind: api.TApp, B: a}, {Kind: 8}, {Kind: api.TSort, A: a}, {Kind: api.TVar, N: -1}, let(a, a, variable(1)), let(a, variable(0), a), app(a, nil)} {
		for i, x := range []api.Sentence{
			{Kind: api.SAxiom, Name: "a", A: wrong}, {Kind: api.SVar, Name: "a", A: wrong}, {Kind: api.SCheck, A: wrong},
			{Kind: api.SDef, Name: "a", A: wrong, B: a}, {Kind: api.SDef, Name: "a", A: a, B: wrong},
			{Kind: api.SFamily, Name: "a", A: wrong}, {Kind: api.SFamily, Name: "a", A: wrong, Cons: []api.Con{con("a", a)}},
			{Kind: api.SFamily, Name: "a", A: a, Cons: []api.Con{con("a", wrong)}},
			{Kind: api.SFamily, Name: "a", A: a, Cons: []api.Con{con("a", a), con("b", wrong)}},
			{Kind: api.SFamily, Name: "a", A: a, Cons: []api.Con{con("a", wrong), con("b", a)}},
		} {
			if got := sent.Print(x); got != "" {
				t.Errorf("row %d: %s: %q", i, tell(x), got)
			}
		}
	}
}

// The same are just those of which all is the same, of whatever Kind they are.
func TestP21_1Same(t *testing.T) {
	all := func() []api.Sentence {
		a, b := constant("a"), constant("b")
		l := []api.Sentence{{}, {Kind: -1}, {Kind: math.MaxInt}, {N: 1}, {N: -1}, {Name: "a"}, {Name: "b"}, {A: a}, {B: a}, {A: b}, {A: &api.Term{}}, {A: &api.Term{Kind: 77}}, {A: a, B: a}, {A: a, B: b}, {A: b, B: a}, {A: app(a, b)}, {A: app(b, a)}, {A: app(a, nil)}, {A: lam(a, b)}, {A: variable(0)}, {A: variable(1)},
			{Cons: []api.Con{{}}}, {Cons: []api.Con{{}, {}}}, {Cons: []api.Con{con("a", nil)}}, {Cons: []api.Con{con("b", nil)}}, {Cons: []api.Con{con("", a)}}, {Cons: []api.Con{con("a", a)}}, {Cons: []api.Con{con("a", b)}}, {Cons: []api.Con{con("b", a)}}, {Cons: []api.Con{con("a", a), {}}}, {Cons: []api.Con{{}, con("a", a)}}, {Cons: []api.Con{con("a", a), con("b", b)}}, {Cons: []api.Con{con("b", b), con("a", a)}}, {Cons: []api.Con{con("a", a), con("b", a)}}, {Cons: []api.Con{con("a", b), con("b", b)}}}
		for kind := api.SAxiom; kind <= api.SPrint; kind++ {
			l = append(l, api.Sentence{Kind: kind}, api.Sentence{Kind: kind, Name: "a"}, api.Sentence{Kind: kind, A: a}, api.Sentence{Kind: kind, N: 2, Name: "a", A: a, B: b, Cons: []api.Con{con("c", a)}})
		}
		return l
	}
	l, others := all(), all()
	for i := range l {
		for j := range others {
			if got := sent.Same(l[i], others[j]); got != (i == j) {
				t.Errorf("%s, %s: %v", tell(l[i]), tell(others[j]), got)
			}
		}
	}
	if !sent.Same(api.Sentence{Cons: []api.Con{}}, api.Sentence{}) || !sent.Same(api.Sentence{}, api.Sentence{Cons: make([]api.Con, 0, 3)}) {
		t.Error("an empty list isn't the same as none")
	}
}

// What the chapter gives for an example, and that a term's words are syntax's.
func TestP21_1Examples(t *testing.T) {
	if x, err := sent.Parse("undo 2 ."); err != nil || x.Kind != api.SUndo || x.N != 2 || x.Name != "" || x.A != nil || x.B != nil || len(x.Cons) != 0 {
		t.Errorf("%s, %v", tell(x), err)
	}
	for _, text := range []string{"a", "a -> a -> a", "( a -> a ) -> a", "fun x : a => fun y : x => x y", "let x : a := b in pi y : x , y", "a.rec b ( a.rec@3 c )", "Type3", "_ -> a", "fun _ : a => _"} {
		if strings.HasPrefix(text, "_") {
			refused(t, "check "+text+" .", api.ErrForm)
			continue
		}
		want := api.Sentence{Kind: api.SCheck, A: term1(t, text)}
		x, err := sent.Parse("check " + text + " .")
		if err != nil || !sent.Same(x, want) || sent.Print(x) != "check "+syntax.Print(want.A)+" ." {
			t.Errorf("%q: %s, %v", text, tell(x), err)
		}
	}
}
