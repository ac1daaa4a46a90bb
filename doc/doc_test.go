package doc_test

import (
	"errors"
	"fmt"
	"strings"
	"testing"

	"vademecum/api"
	"vademecum/doc"
	"vademecum/sent"
	"vademecum/syntax"
)

func sort(n int) *api.Term { return &api.Term{Kind: api.TSort, N: n} }

func variable(n int) *api.Term { return &api.Term{Kind: api.TVar, N: n} }

func constant(name string) *api.Term { return &api.Term{Kind: api.TConst, Name: name} }

func pi(a, b *api.Term) *api.Term { return &api.Term{Kind: api.TPi, A: a, B: b} }

func lam(a, b *api.Term) *api.Term { return &api.Term{Kind: api.TLam, A: a, B: b} }

func let(a, b, c *api.Term) *api.Term { return &api.Term{Kind: api.TLet, A: a, B: b, C: c} }

func app(f *api.Term, l ...*api.Term) *api.Term {
	for _, x := range l {
		f = &api.Term{Kind: api.TApp, A: f, B: x}
	}
	return f
}

const (
	nats  = "family nat 0 : Type0 { o : nat ; s : nat -> nat } ."
	lists = "family list 1 : Type0 -> Type0 { nil : pi A : Type0 , list A ; cons : pi A : Type0 , A -> list A -> list A } ."
)

// enough: so much fuel that none of the sentences by hand needs more.
const enough = 3000

// read is the sentence of a line.
func read(line string) api.Sentence {
	x, err := sent.Parse(line)
	if err != nil {
		panic(line + " " + err.Error())
	}
	return x
}

// tell is a term as a text: two texts are the same just where the terms are.
func tell(t *api.Term) string {
	if t == nil {
		return "-"
	}
	if text := syntax.Print(t); text != "" {
		return text
	}
	return fmt.Sprintf("(%d %d %q %s %s %s)", t.Kind, t.N, t.Name, tell(t.A), tell(t.B), tell(t.C))
}

// tellCons are constructors as a text.
func tellCons(l []api.Con) string {
	text := ""
	for _, c := range l {
		text += fmt.Sprintf(" | %q : %s", c.Name, tell(c.Type))
	}
	return text
}

// tellDecls are declarations as a text.
func tellDecls(l []api.Decl) string {
	var text strings.Builder
	for _, d := range l {
		f := d.Family
		fmt.Fprintf(&text, "%d %q : %s := %s of %q %d,%d,%d%s\n", d.Kind, d.Name, tell(d.Type), tell(d.Value), d.Of, f.Params, f.Indices, f.Sort, tellCons(f.Cons))
	}
	return text.String()
}

// tellOpens is what is open as a text.
func tellOpens(l []api.Open) string {
	text := ""
	for _, o := range l {
		text += fmt.Sprintf("open %v %q from %d vars %s\n", o.Section, o.Name, o.From, tellDecls(o.Vars))
	}
	return text
}

// tellDoc is a document as a text.
func tellDoc(d *doc.Doc) string { return tellDecls(d.Env().List()) + tellOpens(d.Opens()) }

// tellSentence is a sentence as a text, whatever it is.
func tellSentence(x api.Sentence) string {
	if text := sent.Print(x); text != "" {
		return text
	}
	return fmt.Sprintf("Kind %d N %d %q : %s := %s%s", x.Kind, x.N, x.Name, tell(x.A), tell(x.B), tellCons(x.Cons))
}

// brief is a text, cut off where it is far too long.
func brief(text string) string { return fmt.Sprintf("%.1500s", text) }

// numberOf is the number that an error is, or wraps; 0, if there is no error; -1, if it has none.
func numberOf(err error) api.Errno {
	number := api.Errno(-1)
	if err == nil {
		return api.OK
	}
	errors.As(err, &number)
	return number
}

// done does a sentence, which has to be accepted, with no text and without a change to the document.
func done(t *testing.T, d *doc.Doc, x api.Sentence, fuel int) *doc.Doc {
	t.Helper()
	before := tellDoc(d)
	next, text, err := d.Do(x, fuel)
	if err != nil || next == nil || text != "" {
		t.Fatalf("%s: %q, %v", brief(tellSentence(x)), text, err)
	}
	if tellDoc(d) != before {
		t.Errorf("%s: the document is changed", brief(tellSentence(x)))
	}
	return next
}

// said is what sentences make of a document.
func said(t *testing.T, d *doc.Doc, lines ...string) *doc.Doc {
	t.Helper()
	for _, line := range lines {
		d = done(t, d, read(line), enough)
	}
	return d
}

// made is what sentences make of a new document.
func made(t *testing.T, lines ...string) *doc.Doc {
	t.Helper()
	return said(t, doc.New(), lines...)
}

// refuses holds that a sentence isn't accepted, for a reason, and changes nothing.
func refuses(t *testing.T, d *doc.Doc, x api.Sentence, fuel int, why api.Errno) {
	t.Helper()
	before := tellDoc(d)
	next, text, err := d.Do(x, fuel)
	if next != nil || text != "" || numberOf(err) != why || !errors.Is(err, why) {
		t.Errorf("%s: %v, %q, %v; want %v", brief(tellSentence(x)), next != nil, text, err, why)
	}
	if err != nil && err.Error() != why.Error() {
		t.Errorf("%s: told as %q", brief(tellSentence(x)), err.Error())
	}
	if tellDoc(d) != before {
		t.Errorf("%s: the document is changed", brief(tellSentence(x)))
	}
}

// fails holds that lines aren't accepted, each for the same reason.
func fails(t *testing.T, d *doc.Doc, why api.Errno, lines ...string) {
	t.Helper()
	for _, line := range lines {
		refuses(t, d, read(line), enough, why)
	}
}

// answers holds a sentence's text; the document stays what it is.
func answers(t *testing.T, d *doc.Doc, x api.Sentence, fuel int, want string) {
	t.Helper()
	before := tellDoc(d)
	next, text, err := d.Do(x, fuel)
	if err != nil || text != want || next == nil {
		t.Errorf("%s: %q, %v; want %q", brief(tellSentence(x)), brief(text), err, brief(want))
		return
	}
	if tellDoc(d) != before || tellDoc(next) != before || !doc.Same(next, d) || !doc.Same(d, next) {
		t.Errorf("%s: another document", brief(tellSentence(x)))
	}
}

// prints holds what is told of a name; "" of a name that isn't there.
func prints(t *testing.T, d *doc.Doc, name, want string) {
	t.Helper()
	x := api.Sentence{Kind: api.SPrint, Name: name}
	if want == "" {
		refuses(t, d, x, 0, api.ErrName)
		return
	}
	answers(t, d, x, 0, want)
}

// names are the names of all declarations, in order.
func names(d *doc.Doc) string {
	var l []string
	for _, x := range d.Env().List() {
		l = append(l, x.Name)
	}
	return strings.Join(l, " ")
}

// holds holds the names of all declarations.
func holds(t *testing.T, d *doc.Doc, want string) {
	t.Helper()
	if got := names(d); got != want || d.Env().Len() != len(strings.Fields(want)) {
		t.Errorf("holds %q, want %q", got, want)
	}
}

func TestP22_1New(t *testing.T) {
	for _, d := range []*doc.Doc{doc.New(), {}} {
		holds(t, d, "")
		if len(d.Opens()) != 0 || !doc.Same(d, doc.New()) || !doc.Same(doc.New(), d) {
			t.Errorf("%s", tellDoc(d))
		}
		prints(t, d, "nat", "")
		prints(t, d, "", "")
		answers(t, d, read("check Type3 ."), 1, "Type4")
		fails(t, d, api.ErrOpen, "end a .", "var a : Type0 .")
		holds(t, said(t, d, nats, "section a .", "var b : nat ."), "nat o s b")
	}
}

func TestP22_1Axiom(t *testing.T) {
	d := made(t, nats, "axiom a : nat .", "axiom p : nat -> Type0 .", "axiom h : pi n : nat , p n -> p ( s n ) .")
	holds(t, d, "nat o s a p h")
	prints(t, d, "a", "axiom a : nat .")
	prints(t, d, "p", "axiom p : pi _0 : nat , Type0 .")
	prints(t, d, "h", "axiom h : pi _0 : nat , pi _1 : p _0 , p ( s _0 ) .")
	h, _ := d.Env().Find("h")
	if h.Kind != api.DAxiom || h.Value != nil || h.Of != "" || h.Family.Cons != nil {
		t.Errorf("%s", tellDecls([]api.Decl{h}))
	}
	fails(t, d, api.ErrName, "axiom nat : Type0 .", "axiom o : Type0 .", "axiom x : x .", "axiom x : zz -> Type0 .", "axiom x : zz.rec .", "axiom x : a.rec .", "axiom x : o.rec .")
	fails(t, d, api.ErrSort, "axiom x : a .", "axiom x : Type9 .", "axiom x : fun n : nat => n .")
	fails(t, d, api.ErrType, "axiom x : p nat .")
	fails(t, d, api.ErrFun, "axiom x : a a .")
	refuses(t, d, api.Sentence{Kind: api.SAxiom, Name: "x", A: variable(0)}, enough, api.ErrVar)
	refuses(t, d, api.Sentence{Kind: api.SAxiom, Name: "x", A: pi(sort(0), variable(1))}, enough, api.ErrVar)
	for _, name := range []string{"", ".", "1", "a b", "a..b", "nat.rec", "x.rec", "_x", strings.Repeat("x", 25)} {
		refuses(t, d, api.Sentence{Kind: api.SAxiom, Name: name, A: sort(0)}, enough, api.ErrForm)
	}
	for _, name := range []string{"x.y", "rec", "x.rec.y", "X_1", strings.Repeat("x", 24)} {
		holds(t, done(t, d, api.Sentence{Kind: api.SAxiom, Name: name, A: sort(0)}, enough), "nat o s a p h "+name)
	}
}

func TestP22_1Def(t *testing.T) {
	d := made(t, nats, "def one : nat := s o .", "def two : nat := s one .", "def id : pi A : Type0 , A -> A := fun A : Type0 => fun x : A => x .")
	holds(t, d, "nat o s one two id")
	prints(t, d, "two", "def two : nat := s one .")
	prints(t, d, "id", "def id : pi _0 : Type0 , pi _1 : _0 , _0 := fun _0 : Type0 => fun _1 : _0 => _1 .")
	two, _ := d.Env().Find("two")
	if two.Kind != api.DDef || tell(two.Value) != "s one" || two.Of != "" {
		t.Errorf("%s", tellDecls([]api.Decl{two}))
	}
	fails(t, d, api.ErrName, "def one : nat := o .", "def x : zz := o .", "def x : nat := zz .", "def x : nat := x .", "def x : zz := yy .")
	fails(t, d, api.ErrType, "def x : nat := nat .", "def x : nat -> nat := o .", "def x : nat := s s .", "def x : Type0 := Type0 .")
	fails(t, d, api.ErrSort, "def x : o := o .", "def x : Type9 := Type8 .")
	fails(t, d, api.ErrFun, "def x : nat := o o .")
	refuses(t, d, api.Sentence{Kind: api.SDef, Name: "x", A: constant("nat"), B: variable(0)}, enough, api.ErrVar)
	refuses(t, d, api.Sentence{Kind: api.SDef, Name: "x.rec", A: constant("nat"), B: constant("o")}, enough, api.ErrForm)
}

func TestP22_1Family(t *testing.T) {
	d := made(t, nats, lists, "family vec 1 : Type0 -> nat -> Type0 { vnil : pi A : Type0 , vec A o } .", "family none 0 : Type3 { } .")
	holds(t, d, "nat o s list nil cons vec vnil none")
	prints(t, d, "list", "family list 1 : pi _0 : Type0 , Type0 { nil : pi _0 : Type0 , list _0 ; cons : pi _0 : Type0 , pi _1 : _0 , pi _2 : list _0 , list _0 } .")
	prints(t, d, "none", "family none 0 : Type3 { } .")
	for _, name := range []string{"vec", "vnil"} {
		prints(t, d, name, "family vec 1 : pi _0 : Type0 , pi _1 : nat , Type0 { vnil : pi _0 : Type0 , vec _0 o } .")
	}
	vec, _ := d.Env().Find("vec")
	vnil, _ := d.Env().Find("vnil")
	if got := tellDecls([]api.Decl{vec, vnil}); got != `3 "vec" : pi _0 : Type0 , pi _1 : nat , Type0 := - of "" 1,1,0 | "vnil" : pi _0 : Type0 , vec _0 o`+"\n"+`4 "vnil" : pi _0 : Type0 , vec _0 o := - of "vec" 0,0,0`+"\n" {
		t.Errorf("%s", got)
	}
	fails(t, d, api.ErrName, "family nat 0 : Type0 { } .", "family f 0 : Type0 { o : f } .", "family f 0 : Type0 { c : f ; nil : f } .",
		"family f 0 : zz -> Type0 { } .", "family f 0 : Type0 { c : f ; e : zz -> f } .",
		// It isn't there for its own type, and no constructor is for another one's.
		"family f 0 : f -> Type0 { } .", "family f 0 : f.rec -> Type0 { } .", "family f 0 : Type0 { c : f ; e : c -> f } .", "family f 0 : Type0 { c : c -> f } .")
	fails(t, d, api.ErrPos, "family f 0 : nat { } .", "family f 0 : Type0 { c : nat } .", "family f 0 : Type0 { c : ( f -> nat ) -> f } .", "family f 0 : Type0 { c : f.rec -> f } .", "family f 0 : Type0 { c : f.rec@3 nat -> f } .", "family f 1 : Type0 { } .", "family f 1 : Type0 -> Type0 { c : f nat } .")
	fails(t, d, api.ErrForm, "family f 13 : Type0 { } .", "family f 0 : Type0 { c : f ; c : f } .", "family f 0 : Type0 { f : f } .", "family f 0 : Type0 { a : f ; b : f ; c : f ; d : f ; e : f ; g : f ; h : f ; i : f ; j : f } .")
	fails(t, d, api.ErrSort, "family f 0 : Type0 { c : Type0 -> f } .", "family f 0 : o -> Type0 { } .", "family f 0 : Type9 { } .", "family f 0 : Type0 { c : o -> f } .")
	fails(t, d, api.ErrType, "family f 0 : nat -> Type0 { c : f nat } .")
	fails(t, d, api.ErrFun, "family f 0 : o o -> Type0 { } .")
	ok := read("family f 0 : Type0 { c : f } .")
	for _, spoil := range []func(x *api.Sentence){
		func(x *api.Sentence) { x.N = -1 },
		func(x *api.Sentence) { x.Name = "f.rec" },
		func(x *api.Sentence) { x.Name = "1" },
		func(x *api.Sentence) { x.Name = "" },
		func(x *api.Sentence) { x.Cons[0].Name = "c.rec" },
		func(x *api.Sentence) { x.Cons[0].Name = "" },
		func(x *api.Sentence) { x.A = pi(sort(0), variable(1)) },
		func(x *api.Sentence) { x.Cons[0].Type = pi(variable(0), constant("f")) },
	} {
		x := ok
		x.Cons = []api.Con{{Name: "c", Type: constant("f")}}
		if spoil(&x); x.Name != "f" {
			x.Cons = nil
		}
		refuses(t, d, x, enough, api.ErrForm)
	}
}

// A family stands in its constructors' types by its whole name, and without any of the outer namespaces.
func TestP22_1FamilyIsThereAlready(t *testing.T) {
	d := made(t, nats, "space a .", "section q .", "space b .")
	whole := "family a.b.f 0 : Type0 { a.b.c : pi _0 : a.b.f , a.b.f } ."
	for _, name := range []string{"f", "b.f", "a.b.f"} {
		for _, other := range []string{"f", "b.f", "a.b.f"} {
			e := said(t, d, "family f 0 : Type0 { c : "+name+" -> "+other+" } .")
			prints(t, e, "c", whole)
			fails(t, d, api.ErrPos, "family f 0 : Type0 { c : "+name+".rec@2 -> "+other+" } .")
		}
	}
	fails(t, d, api.ErrName, "family f 0 : Type0 { c : q.f -> f } .", "family f 0 : Type0 { c : a.f -> f } .", "family f 0 : Type0 { c : b.b.f -> f } .", "family f 0 : Type0 { c : a.q.b.f -> f } .", "family f 0 : Type0 { c : a.f.rec -> f } .", "family f 0 : Type0 { c : f.f -> f } .")
	// Its name may have parts too.
	e := said(t, d, "family g.f 0 : Type0 { c : b.g.f -> g.f } .")
	prints(t, e, "c", "family a.b.g.f 0 : Type0 { a.b.c : pi _0 : a.b.g.f , a.b.g.f } .")
	fails(t, d, api.ErrName, "family g.f 0 : Type0 { c : f -> g.f } .")
}

// Where a name says the family and another declaration, the one in more namespaces is meant.
func TestP22_1FamilyAmongOthers(t *testing.T) {
	d := made(t, "axiom f : Type0 .", "axiom a.a.f : Type0 .", "axiom a.b.b.f : Type0 .", "family g 0 : Type0 { } .", "space a .", "space b .")
	e := said(t, d, "family f 0 : Type0 { c : f -> b.f -> a.b.f -> a.f -> f } .")
	// a.f is said in a: a.a.f. b.f is said in a.b: a.b.b.f.
	prints(t, e, "f", "family a.b.f 0 : Type0 { a.b.c : pi _0 : a.b.f , pi _1 : a.b.b.f , pi _2 : a.b.f , pi _3 : a.a.f , a.b.f } .")
	// The outer one isn't to be said any more; its recursor isn't either.
	e = said(t, d, "family g 0 : Type0 { c : g -> g } .")
	prints(t, e, "c", "family a.b.g 0 : Type0 { a.b.c : pi _0 : a.b.g , a.b.g } .")
	fails(t, d, api.ErrPos, "family g 0 : Type0 { c : g.rec@0 -> g } .")
	// Of what isn't a family there is no recursor, so this is the outer one's.
	d = made(t, "family g 0 : Type0 { } .", "def k : Type0 := g .", "space a .", "axiom g : Type0 .", "space b .")
	e = said(t, d, "family f 0 : Type0 { c : pi y : k , g.rec@1 ( fun z : k => Type0 ) y -> g -> f } .")
	prints(t, e, "c", "family a.b.f 0 : Type0 { a.b.c : pi _0 : k , pi _1 : g.rec@1 ( fun _1 : k => Type0 ) _0 , pi _2 : a.g , a.b.f } .")
	fails(t, d, api.ErrPos, "family g 0 : Type0 { c : pi y : k , g.rec@1 ( fun z : k => Type0 ) y -> g } .")
}

// Names are found as if the family were there, also where it can't be.
func TestP22_1FamilyCannotBeThere(t *testing.T) {
	x := read("family f 0 : Type0 { c : f } .")
	rec := read("family f 0 : Type0 { c : f.rec -> f } .")
	lacks := read("family f 0 : Type0 { c : f -> zz -> f } .")
	// There is another one of its name.
	for _, other := range []string{"axiom f : Type1 .", "def f : Type1 := Type0 .", "family f 0 : Type1 { } .", "family g 0 : Type0 { f : g } ."} {
		d := made(t, other)
		refuses(t, d, x, enough, api.ErrName)
		refuses(t, d, rec, enough, api.ErrPos)
		refuses(t, d, lacks, enough, api.ErrName)
		refuses(t, d, read("family f 1 : Type0 { c : f.rec -> f } ."), enough, api.ErrPos)
		refuses(t, d, read("family f 1 : Type0 { c : f.rec -> zz } ."), enough, api.ErrName)
	}
	// Its name is too long: then what has .rec behind it is no recursor.
	d := made(t, "space "+strings.Repeat("x", 23)+" .")
	refuses(t, d, x, enough, api.ErrForm)
	refuses(t, d, rec, enough, api.ErrName)
	refuses(t, d, lacks, enough, api.ErrName)
	refuses(t, d, read("family "+strings.Repeat("x", 24)+" 0 : Type0 { c : "+strings.Repeat("x", 24)+" } ."), enough, api.ErrForm)
	// Its name is none.
	for _, name := range []string{"nat.rec", "1", "", "a b"} {
		y := x
		y.Name = name
		refuses(t, d, y, enough, api.ErrName)
		y.Cons = nil
		refuses(t, d, y, enough, api.ErrForm)
	}
	// There is no room.
	lines := []string{"space a .", "section b ."}
	for i := range api.MaxDecls {
		lines = append(lines, fmt.Sprint("axiom x", i, " : Type0 ."))
	}
	d = made(t, lines...)
	refuses(t, d, x, enough, api.ErrFull)
	refuses(t, d, rec, enough, api.ErrPos)
	refuses(t, d, lacks, enough, api.ErrName)
	refuses(t, d, read("family f 0 : Type0 { c : x0 -> a.x199 -> a.f -> f } ."), enough, api.ErrFull)
	refuses(t, d, read("family f 0 : Type0 { c : x0 x0 -> f } ."), enough, api.ErrFull)
}

// Of the whole name it is asked whether it is a recursor's, and of which family; not of what was said.
func TestP22_1FamilyWholeNames(t *testing.T) {
	long, short := strings.Repeat("x", 23), strings.Repeat("x", 22)
	for _, c := range []struct {
		ahead  []string // what was said ahead of it
		family string
		said   string // in its constructor's type
		why    api.Errno
	}{
		// As long as a name may be.
		{[]string{"space " + short + " ."}, "t", "t", api.OK},
		{[]string{"space " + short[4:] + " ."}, "t", "t.rec", api.ErrPos},
		{[]string{"space " + short[3:] + " ."}, "t", "t.rec", api.ErrForm}, // it is there, but no term may say it
		{[]string{"space " + short + " ."}, "t", "t.rec", api.ErrForm},
		{[]string{"space " + short + " ."}, "rec", "rec", api.ErrName},
		// Longer by one, by whatever namespaces.
		{[]string{"space " + long + " ."}, "t", "t", api.ErrForm},
		{[]string{"space " + long + " ."}, "t", "t.rec", api.ErrName},
		{[]string{"space " + short + " ."}, "tt", "tt.rec", api.ErrName},
		{[]string{"space a .", "section s .", "space " + long[2:] + " ."}, "t", "t.rec", api.ErrName},
		{[]string{"space a .", "section s .", "space " + long[2:] + " ."}, "t", long[2:] + ".t", api.ErrForm},
		{[]string{"space a .", "section s .", "space " + long[3:] + " ."}, "t", long[3:] + ".t.rec", api.ErrForm},
		// A name like a recursor's, which the whole one isn't like.
		{[]string{"space " + long + " ."}, "t.rec", "t.rec", api.ErrForm},
		{[]string{"space " + long + " ."}, "t.rec", "t.rec.rec", api.ErrName},
		{[]string{"space " + long + " ."}, "t.rec", "t", api.ErrName},
		{[]string{"space " + short + " ."}, "tt.rec", "tt.rec", api.ErrForm},
		// A recursor's name: it is asked for the family of that, which is another one.
		{[]string{"space " + short + " ."}, "t.rec", "t.rec", api.ErrName},
		{nil, "t.rec", "t.rec", api.ErrName},
		{[]string{"family t 0 : Type0 { } ."}, "t.rec", "t.rec", api.ErrForm},
		{[]string{"axiom t : Type0 ."}, "t.rec", "t.rec", api.ErrName},
		{nil, "t.rec", "t.rec.rec", api.ErrForm},
		{[]string{"space t ."}, "rec", "rec", api.ErrName},
		{[]string{"space t ."}, "rec", "t.rec", api.ErrName},
		{[]string{"space t ."}, "rec", "rec.rec", api.ErrForm},
		{[]string{"family t 0 : Type0 { } .", "space t ."}, "rec", "rec", api.ErrForm},
		{[]string{"family t 0 : Type0 { } .", "space t ."}, "rec", "t.rec", api.ErrForm},
		// Said so, it is the recursor's name in both namespaces, and in one of them like its own.
		{[]string{"space a .", "space rec ."}, "rec", "rec.rec", api.ErrForm},
		// Ahead of it stands what no name has.
		{nil, "1", "rec", api.ErrName},
	} {
		d := made(t, c.ahead...)
		x := api.Sentence{Kind: api.SFamily, Name: c.family, A: sort(0), Cons: []api.Con{{Name: "k", Type: constant(c.said)}}}
		if c.why == api.OK {
			done(t, d, x, enough)
			continue
		}
		refuses(t, d, x, enough, c.why)
	}
	// Namespaces that are no names: with one of them ahead there is no recursor either.
	for _, name := range []string{"", "1", "a b", "a."} {
		d := done(t, doc.New(), api.Sentence{Kind: api.SSpace, Name: name}, enough)
		for said, why := range map[string]api.Errno{"t": api.ErrForm, "t.rec": api.ErrName, "rec": api.ErrName} {
			refuses(t, d, api.Sentence{Kind: api.SFamily, Name: "t", A: sort(0), Cons: []api.Con{{Name: "k", Type: constant(said)}}}, enough, why)
		}
	}
}

func TestP22_1Space(t *testing.T) {
	d := made(t, nats, "space a .", "axiom x : nat .", "space b.c .", "def y : nat := s x .", "end b.c .", "family f 0 : Type0 { c : nat -> f } .", "end a .", "axiom x : nat -> nat .")
	holds(t, d, "nat o s a.x a.b.c.y a.f a.c x")
	prints(t, d, "a.b.c.y", "def a.b.c.y : nat := s a.x .")
	prints(t, d, "a.c", "family a.f 0 : Type0 { a.c : pi _0 : nat , a.f } .")
	prints(t, d, "b.c.y", "")
	fails(t, d, api.ErrName, "check y .", "check f .", "check c .", "check f.rec .")
	// It may be opened again.
	d = said(t, d, "space a .", "axiom z : f -> nat .")
	prints(t, d, "z", "axiom a.z : pi _0 : a.f , nat .")
	prints(t, d, "a.z", "axiom a.z : pi _0 : a.f , nat .")
	prints(t, d, "x", "axiom a.x : nat .")
	prints(t, d, "b.c.y", "def a.b.c.y : nat := s a.x .")
	fails(t, d, api.ErrName, "axiom x : nat .", "axiom b.c.y : nat .", "family x 0 : Type0 { } .", "family g 0 : Type0 { x : g } .")
	d = said(t, d, "space b .")
	prints(t, d, "c.y", "def a.b.c.y : nat := s a.x .")
	prints(t, d, "y", "")
}
