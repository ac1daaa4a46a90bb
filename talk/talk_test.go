package talk_test

import (
	"fmt"
	"math"
	"slices"
	"strings"
	"testing"

	"vademecum/api"
	"vademecum/doc"
	"vademecum/sent"
	"vademecum/talk"
)

const nats = "family nat 0 : Type0 { o : nat ; s : nat -> nat } ."

// enough fuel for whatever is said here, where it isn't about fuel.
const enough = 2000

// tell is all that a talk tells but its document, as a text.
func tell(x *talk.Talk) string {
	p := x.Past()
	return fmt.Sprintf("%d in %v marks %q", p.State(), p.States(), p.Marks())
}

// answers fails the test where a line isn't accepted, or is answered otherwise.
func answers(t *testing.T, x *talk.Talk, line string, state int, text string) {
	t.Helper()
	if got, want := x.Say(line), (api.Reply{State: state, Text: text}); got != want {
		t.Errorf("%.200q: %v; want %v", line, got, want)
	}
	if x.Past().State() != state {
		t.Errorf("%.200q: state %d; want %d", line, x.Past().State(), state)
	}
}

// said is a talk to which these lines are said, each of which must be accepted, without a text.
func said(t *testing.T, x *talk.Talk, lines ...string) *talk.Talk {
	t.Helper()
	for _, line := range lines {
		if r := x.Say(line); r.Err != 0 || r.Text != "" || r.State != x.Past().State() {
			t.Fatalf("%.200q: %v", line, r)
		}
	}
	return x
}

// refuses fails the test where a line isn't refused with that error, or has changed what is told.
func refuses(t *testing.T, x *talk.Talk, want api.Errno, lines ...string) {
	t.Helper()
	for _, line := range lines {
		was, now := tell(x), x.Past().Now()
		if got, want := x.Say(line), (api.Reply{Err: int(want), State: x.Past().State()}); got != want {
			t.Errorf("%.200q: %v; want %v", line, got, want)
		}
		holds(t, x, line, was, now)
	}
}

// holds fails the test where a talk doesn't tell this, or isn't at that document.
func holds(t *testing.T, x *talk.Talk, what, want string, now *doc.Doc) {
	t.Helper()
	if tell(x) != want {
		t.Errorf("%.200q: %s; want %s", what, tell(x), want)
	}
	if !doc.Same(x.Past().Now(), now) {
		t.Errorf("%.200q: another document", what)
	}
}

// made is a document that these lines make, each of which must be accepted.
func made(t *testing.T, lines ...string) *doc.Doc {
	t.Helper()
	d := doc.New()
	for _, line := range lines {
		x, err := sent.Parse(line)
		if err != nil {
			t.Fatalf("%s: %v", line, err)
		}
		next, _, err := d.Do(x, enough)
		if err != nil {
			t.Fatalf("%s: %v", line, err)
		}
		d = next
	}
	return d
}

func TestP24_1New(t *testing.T) {
	holds(t, talk.New(enough), "new", "0 in [0] marks []", doc.New())
	// What New didn't make is like New(0).
	var x talk.Talk
	holds(t, &x, "made by nobody", "0 in [0] marks []", doc.New())
	refuses(t, &x, api.ErrFuel, "axiom a : Type0 .")
	said(t, &x, "space a .")
	holds(t, &x, "made by nobody", "1 in [0 1] marks []", made(t, "space a ."))
}

func TestP24_1Example(t *testing.T) {
	x := talk.New(enough)
	refuses(t, x, api.ErrState, "undo 1 .")
}

// The fuel is held, and each sentence has all of it.
func TestP24_1Fuel(t *testing.T) {
	for _, fuel := range []int{math.MinInt, -7, -1, 0} {
		x := talk.New(fuel)
		refuses(t, x, api.ErrFuel, "axiom a : Type0 .", "check Type0 .", nats)
		said(t, x, "space a .", "section b .", "mark m .", "end b .", "commit .", "undo 1 .", "restore m .", "back 1 .")
	}
	for _, fuel := range []int{api.MaxFuel, api.MaxFuel + 1, math.MaxInt} {
		x := talk.New(fuel)
		said(t, x, nats)
		for i := range 20 {
			said(t, x, fmt.Sprintf("def n%d : nat := s o .", i))
		}
	}
	for line, least := range map[string]int{
		"axiom a : Type0 .":                   1,
		"axiom a : nat -> Type0 .":            3,
		"def a : nat := s o .":                6,
		"family a 0 : Type0 { b : a -> a } .": 5,
	} {
		for fuel := range least {
			x := talk.New(fuel)
			if err := x.Past().Push(made(t, nats)); err != nil {
				t.Fatal(err)
			}
			refuses(t, x, api.ErrFuel, line)
		}
		x := talk.New(least)
		if err := x.Past().Push(made(t, nats)); err != nil {
			t.Fatal(err)
		}
		for range 3 {
			said(t, x, line, "undo 1 .")
		}
	}
}

// exactly is a line that takes so much fuel among numbers: 19729, 2 for each function, 3 for each successor.
func exactly(functions, successors int) string {
	// number is 2 to so many, less 1. Compared, all of it is made.
	number := func(n int) string {
		return strings.Repeat("( s ( twice ", n) + "o" + strings.Repeat(" ) )", n)
	}
	taken := func(f, x string, n int) string {
		return "fun " + f + " : is " + number(n) + " -> nat => fun " + x + " : is ( add o " + number(n) + " ) => "
	}
	return "check " + strings.Repeat("fun z : nat => ", functions) + taken("p", "x", 7) + taken("q", "y", 4) +
		strings.Repeat("s ( ", successors) + strings.Repeat("add ( p x ) ( ", 5) + strings.Repeat("add ( q y ) ( ", 3) + "o" + strings.Repeat(" )", 8+successors) + " ."
}

// More fuel than the greatest is as good as that, to the last one.
func TestP24_1FuelHeld(t *testing.T) {
	lines := []string{
		nats,
		"def add : nat -> nat -> nat := fun m : nat => nat.rec@0 ( fun n : nat => nat ) m ( fun n : nat => fun k : nat => s k ) .",
		"def twice : nat -> nat := fun n : nat => add n n .",
		"family is 0 : nat -> Type0 { zero : is o } .",
	}
	for fuel, least := range map[int]int{api.MaxFuel - 1: 19999, api.MaxFuel: 20000, api.MaxFuel + 1: 20000, 1 << 40: 20000, math.MaxInt: 20000} {
		x := said(t, talk.New(fuel), lines...)
		for takes, line := range map[int]string{19999: exactly(0, 90), 20000: exactly(2, 89), 20001: exactly(1, 90), 20002: exactly(0, 91)} {
			if takes > least {
				refuses(t, x, api.ErrFuel, line)
				continue
			}
			if r := x.Say(line); r.Err != 0 || r.State != 4 || r.Text == "" {
				t.Errorf("%d of %d: %v", takes, fuel, r)
			}
		}
	}
}

// Each Kind of sentence does what it says.
func TestP24_1Kinds(t *testing.T) {
	x := talk.New(enough)
	answers(t, x, nats, 1, "")
	answers(t, x, "axiom n : nat .", 2, "")
	answers(t, x, "def m : nat := s n .", 3, "")
	answers(t, x, "space a .", 4, "")
	answers(t, x, "section b .", 5, "")
	answers(t, x, "var A : Type0 .", 6, "")
	answers(t, x, "def id : A -> A := fun x : A => x .", 7, "")
	answers(t, x, "end b .", 8, "")
	lines := []string{nats, "axiom n : nat .", "def m : nat := s n .", "space a .", "section b .", "var A : Type0 .", "def id : A -> A := fun x : A => x .", "end b ."}
	holds(t, x, "all of them", "8 in [0 1 2 3 4 5 6 7 8] marks []", made(t, lines...))
	answers(t, x, "mark here .", 8, "")
	answers(t, x, "commit .", 8, "")
	answers(t, x, "check id nat .", 8, "pi _0 : nat , nat")
	answers(t, x, "print id .", 8, "def a.id : pi _0 : Type0 , pi _1 : _0 , _0 := fun _0 : Type0 => fun _1 : _0 => _1 .")
	holds(t, x, "nothing changed", `8 in [0 1 2 3 4 5 6 7 8] marks ["here"]`, made(t, lines...))
	answers(t, x, "undo 2 .", 6, "")
	holds(t, x, "undone", `6 in [0 1 2 3 4 5 6] marks ["here"]`, made(t, lines[:6]...))
	refuses(t, x, api.ErrState, "restore here .")
	answers(t, x, "mark here .", 6, "")
	answers(t, x, "mark now .", 6, "")
	answers(t, x, "end b .", 9, "")
	answers(t, x, "restore now .", 6, "")
	answers(t, x, "back 3 .", 3, "")
	holds(t, x, "gone back", `3 in [0 1 2 3] marks ["here" "now"]`, made(t, lines[:3]...))
	refuses(t, x, api.ErrState, "restore here .", "restore now .", "back 4 .", "back 9 .", "undo 4 .")
	answers(t, x, "back 3 .", 3, "")
	answers(t, x, "undo 3 .", 0, "")
	holds(t, x, "all undone", `0 in [0] marks ["here" "now"]`, doc.New())
	answers(t, x, "axiom n : Type0 .", 10, "")
}

// A line that isn't a sentence changes nothing.
func TestP24_1Parse(t *testing.T) {
	x := said(t, talk.New(enough), nats, "mark m .", "axiom n : nat .")
	refuses(t, x, api.ErrForm, "", " ", ".", "axiom", "axiom n : nat", "axiom n : nat . .", "undo .", "undo 01 .", "undo 1234567 .", "undo -1 .", "back a .", "mark 1 .", "mark m", "restore .",
		"commit", "commit now .", "check .", "check nat", "print .", "print nat.rec .", "say nat .", "mark fun .", "axiom a : nat := o .", "space .", "end .", "def a : nat .", "#", "check nat .\x00", "axiom \xff : nat .")
	refuses(t, x, api.ErrLarge, strings.Repeat(" ", api.MaxLine+1), "commit ."+strings.Repeat(" ", api.MaxLine-7), strings.Repeat("#", api.MaxLine+1), "undo 1 ."+strings.Repeat(" ", api.MaxLine))
	answers(t, x, "commit ."+strings.Repeat(" ", api.MaxLine-8), 2, "")
	answers(t, x, "  check\tn.", 2, "nat")
	answers(t, x, "undo 1."+strings.Repeat(" ", api.MaxLine-7), 1, "")
}

// Each error of a layer below is the reply's.
func TestP24_1Errors(t *testing.T) {
	x := said(t, talk.New(enough), nats, "section a .", "var v : Type0 .", "space b .")
	for want, lines := range map[api.Errno][]string{
		api.ErrForm: {"axiom " + strings.Repeat("x", 24) + " : nat .", "family f 13 : Type0 { } .", "check ( fun x : nat => x", "check nat@1 ."},
		api.ErrName: {"axiom a : zz .", "def a : nat := zz .", "family f 0 : Type0 { c : g } .", "check zz .", "print zz .", "print b .", "print a.v .", "check n.rec ."},
		api.ErrType: {"def a : nat := nat .", "check s nat .", "def a : Type0 := Type0 ."},
		api.ErrSort: {"axiom a : o .", "check fun x : o => x .", "family f 0 : Type0 { c : Type0 -> f } ."},
		api.ErrFun:  {"check o o .", "def a : nat := o o .", "check s o o ."},
		api.ErrPos:  {"family f 0 : nat { } .", "family f 0 : Type0 { c : nat } .", "family f 0 : Type0 { c : ( f -> nat ) -> f } .", "family f 0 : Type0 { c : v -> f } .", "family f 1 : Type0 { } ."},
		api.ErrOpen: {"end a .", "end c .", "var w : Type0 .", "var w : zz ."},
		api.ErrState: {
			"undo 5 .", "undo 0 .", "undo 999999 .", "back 5 .", "back 999999 .", "restore m .",
		},
	} {
		refuses(t, x, want, lines...)
	}
	holds(t, x, "refused", "4 in [0 1 2 3 4] marks []", made(t, nats, "section a .", "var v : Type0 .", "space b ."))
	said(t, x, "end b .", "section c .", "section c .", "section c .", "section c .", "space c .")
	refuses(t, x, api.ErrOpen, "section d .", "space d .")
	said(t, x, "end c .", "space d .")
	refuses(t, x, api.ErrOpen, "end c .", "space d .")
	refuses(t, talk.New(1), api.ErrFuel, "axiom a : Type0 -> Type0 .", "check Type0 -> Type0 .", "def a : Type1 := Type0 .")
}

// A section whose end makes something too large stays open.
func TestP24_1EndTooLarge(t *testing.T) {
	for n, want := range map[int]api.Errno{15: api.OK, 16: api.ErrLarge} {
		x := said(t, talk.New(api.MaxFuel), "section a .")
		all := ""
		for i := range 90 {
			said(t, x, fmt.Sprintf("var A%d : Type0 .", i))
			all += fmt.Sprintf("A%d -> ", i)
		}
		// What uses h is behind the end applied to 90 variables.
		said(t, x, "def h : Type1 := "+all+"Type0 .", "axiom g : "+strings.Repeat("h -> ", n)+"Type0 .")
		if want == api.OK {
			answers(t, x, "end a .", 94, "")
			continue
		}
		refuses(t, x, want, "end a .", "end a .")
		said(t, x, "undo 1 .", "end a .")
	}
}

// Where there is no room for another state, all that makes none goes on.
func TestP24_1NoRoom(t *testing.T) {
	x := said(t, talk.New(enough), nats, "mark m .", "axiom n : nat .")
	for range (api.MaxStates - 4) / 2 {
		said(t, x, "space a .", "end a .")
	}
	const last = api.MaxStates - 1
	answers(t, x, "space b .", last, "")
	refuses(t, x, api.ErrFull, "axiom a : nat .", "def a : nat := o .", "family f 0 : Type0 { } .", "space a .", "section a .", "end b .")
	// What is in the way of the sentence itself is told first.
	refuses(t, x, api.ErrName, "axiom a : zz .", "print zz .")
	refuses(t, x, api.ErrType, "def a : nat := nat .")
	refuses(t, x, api.ErrForm, "axiom a : nat")
	refuses(t, x, api.ErrOpen, "end a .", "var v : nat .")
	answers(t, x, "check s n .", last, "nat")
	answers(t, x, "print n .", last, "axiom n : nat .")
	answers(t, x, "commit .", last, "")
	answers(t, x, "mark m2 .", last, "")
	answers(t, x, "back "+fmt.Sprint(last)+" .", last, "")
	answers(t, x, "restore m2 .", last, "")
	answers(t, x, "undo 1 .", last-1, "")
	// No number was taken by what was refused.
	answers(t, x, "space a .", last+1, "")
	refuses(t, x, api.ErrFull, "end a .")
	answers(t, x, "restore m .", 1, "")
	answers(t, x, "axiom n : nat .", last+2, "")
}

func TestP24_1Marks(t *testing.T) {
	x := said(t, talk.New(enough), nats)
	for i := range 20 {
		said(t, x, fmt.Sprintf("mark m%d .", i))
	}
	refuses(t, x, api.ErrFull, "mark n .", "mark m20 .", "mark m .")
	said(t, x, "space a .", "mark m7 .", "undo 1 .")
	refuses(t, x, api.ErrState, "restore m7 .", "restore m20 .")
	said(t, x, "space b .", "restore m8 .")
	// A mark is a name by itself: what is open puts nothing ahead, and a declaration has nothing to do with it.
	y := said(t, talk.New(enough), nats, "space a .", "mark nat .", "mark x .", "axiom x : nat .")
	holds(t, y, "marks", `3 in [0 1 2 3] marks ["nat" "x"]`, made(t, nats, "space a .", "axiom x : nat ."))
	refuses(t, y, api.ErrState, "restore a.x .", "restore a .")
	answers(t, y, "restore x .", 2, "")
}

// There is room for so many declarations.
func TestP24_1Declarations(t *testing.T) {
	x := talk.New(enough)
	for i := range api.MaxDecls - 1 {
		said(t, x, fmt.Sprintf("axiom a%d : Type0 .", i))
	}
	refuses(t, x, api.ErrFull, "family f 0 : Type0 { c : f } .")
	said(t, x, "family f 0 : Type0 { } .")
	refuses(t, x, api.ErrFull, "axiom a : Type0 .", "def a : Type1 := Type0 .", "family g 0 : Type0 { } .")
	answers(t, x, "print a198 .", api.MaxDecls, "axiom a198 : Type0 .")
	said(t, x, "space s .", "undo 2 .", "axiom a : Type0 .")
}

// The Past is the talk's own one: what is done to it is done to the talk.
func TestP24_1Past(t *testing.T) {
	x := talk.New(enough)
	p := x.Past()
	said(t, x, nats, "mark a .", "axiom n : nat .")
	if got := fmt.Sprint(p.State(), p.States(), p.Marks()); got != "2 [0 1 2] [a]" || !doc.Same(p.Now(), made(t, nats, "axiom n : nat .")) {
		t.Errorf("told ahead of what was said: %s", got)
	}
	if err := p.Push(made(t, "axiom b : Type0 .")); err != nil {
		t.Error(err)
	}
	answers(t, x, "print b .", 3, "axiom b : Type0 .")
	if err := p.Mark("b"); err != nil {
		t.Error(err)
	}
	if err := p.Undo(2); err != nil {
		t.Error(err)
	}
	refuses(t, x, api.ErrState, "restore b .")
	answers(t, x, "commit .", 1, "")
	p.Rebase(40)
	holds(t, x, "rebased", "40 in [40] marks []", made(t, nats))
	refuses(t, x, api.ErrState, "restore a .", "back 1 .", "back 0 .", "undo 1 .")
	answers(t, x, "axiom n : nat .", 41, "")
	if !slices.Equal(x.Past().States(), []int{40, 41}) || !slices.Equal(p.States(), []int{40, 41}) {
		t.Errorf("told of two: %v, %v", x.Past().States(), p.States())
	}
	p.Rebase(-3)
	answers(t, x, "commit .", -3, "")
	answers(t, x, "space a .", -2, "")
}

func TestP24_1Keeps(t *testing.T) {
	kinds := []int{math.MinInt, -1, 0, 15, 16, math.MaxInt}
	for kind := api.SAxiom; kind <= api.SPrint; kind++ {
		kinds = append(kinds, kind)
	}
	for _, kind := range kinds {
		want := kind != api.SCommit && kind != api.SCheck && kind != api.SPrint
		for _, x := range []api.Sentence{{Kind: kind}, {Kind: kind, N: 3, Name: "a", A: &api.Term{Kind: api.TSort}, B: &api.Term{}, Cons: []api.Con{{}}}} {
			if talk.Keeps(x) != want {
				t.Errorf("Kind %d: %v", kind, !want)
			}
		}
	}
}
