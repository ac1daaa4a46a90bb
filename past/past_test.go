package past_test

import (
	"errors"
	"fmt"
	"math"
	"slices"
	"strings"
	"testing"

	"vademecum/api"
	"vademecum/doc"
	"vademecum/past"
	"vademecum/sent"
)

// made is a document that these lines make, each of which must be accepted.
func made(t *testing.T, d *doc.Doc, lines ...string) *doc.Doc {
	t.Helper()
	for _, line := range lines {
		x, err := sent.Parse(line)
		if err != nil {
			t.Fatalf("%s: %v", line, err)
		}
		next, _, err := d.Do(x, 100)
		if err != nil {
			t.Fatalf("%s: %v", line, err)
		}
		d = next
	}
	return d
}

// several are documents of which no two are the same, none of them new.
func several(t *testing.T, n int) []*doc.Doc {
	t.Helper()
	var l []*doc.Doc
	for i := range n {
		l = append(l, made(t, doc.New(), fmt.Sprintf("axiom a%d : Type0 .", i)))
	}
	return l
}

// tell is all that a past tells but its documents, as a text.
func tell(p *past.Past) string {
	return fmt.Sprintf("%d in %v marks %q", p.State(), p.States(), p.Marks())
}

// holds fails the test where a past doesn't tell this, or isn't at that document.
func holds(t *testing.T, p *past.Past, what, want string, now *doc.Doc) {
	t.Helper()
	if tell(p) != want {
		t.Errorf("%s: %s; want %s", what, tell(p), want)
	}
	if !doc.Same(p.Now(), now) {
		t.Errorf("%s: another document", what)
	}
}

// accepted fails the test at an error.
func accepted(t *testing.T, err error) {
	t.Helper()
	if err != nil {
		t.Errorf("not accepted: %v", err)
	}
}

// refused fails the test where a call isn't refused with that error, or has changed what is told.
func refused(t *testing.T, p *past.Past, what string, want api.Errno, call func() error) {
	t.Helper()
	told, now := tell(p), p.Now()
	err := call()
	var got api.Errno
	if !errors.Is(err, want) || !errors.As(err, &got) || got != want {
		t.Errorf("%s: %v; want %v", what, err, want)
		return
	}
	if !strings.Contains(err.Error(), want.Error()) {
		t.Errorf("%s: %q doesn't tell the number", what, err.Error())
	}
	holds(t, p, what, told, now)
}

// pushed is a past to which these documents were pushed.
func pushed(t *testing.T, l ...*doc.Doc) *past.Past {
	t.Helper()
	p := past.New()
	for _, d := range l {
		accepted(t, p.Push(d))
	}
	return p
}

func TestP23_1New(t *testing.T) {
	holds(t, past.New(), "new", "0 in [0] marks []", doc.New())
	var p past.Past
	holds(t, &p, "made by nobody", "0 in [0] marks []", doc.New())
	accepted(t, p.Push(several(t, 1)[0]))
	holds(t, &p, "made by nobody", "1 in [0 1] marks []", several(t, 1)[0])
}

func TestP23_1Example(t *testing.T) {
	p := pushed(t, several(t, 1)[0])
	accepted(t, p.Undo(1))
	holds(t, p, "the example", "0 in [0] marks []", doc.New())
}

func TestP23_1Push(t *testing.T) {
	l := several(t, 3)
	p := past.New()
	for i, want := range []string{"1 in [0 1] marks []", "2 in [0 1 2] marks []", "3 in [0 1 2 3] marks []"} {
		accepted(t, p.Push(l[i]))
		holds(t, p, "pushed", want, l[i])
	}
	accepted(t, p.Push(p.Now()))
	holds(t, p, "the same once more is a new state", "4 in [0 1 2 3 4] marks []", l[2])
	accepted(t, p.Push(doc.New()))
	holds(t, p, "a new document", "5 in [0 1 2 3 4 5] marks []", doc.New())
}

func TestP23_1PushFull(t *testing.T) {
	l := several(t, 2)
	p := past.New()
	for i := range api.MaxStates - 1 {
		accepted(t, p.Push(l[i%2]))
	}
	if p.State() != 299 || len(p.States()) != 300 {
		t.Fatalf("%d, %d in the row", p.State(), len(p.States()))
	}
	for range 3 {
		refused(t, p, "full", api.ErrFull, func() error { return p.Push(l[1]) })
	}
	// A refused one has taken no number.
	accepted(t, p.Undo(1))
	accepted(t, p.Push(l[1]))
	if p.State() != 300 || len(p.States()) != 300 {
		t.Errorf("%d, %d in the row", p.State(), len(p.States()))
	}
	refused(t, p, "full again", api.ErrFull, func() error { return p.Push(l[1]) })
	// All but the first one may go, and be made again.
	accepted(t, p.Undo(299))
	holds(t, p, "all undone", "0 in [0] marks []", doc.New())
	for range 299 {
		accepted(t, p.Push(l[0]))
	}
	refused(t, p, "full once more", api.ErrFull, func() error { return p.Push(l[0]) })
	// Rebase leaves one.
	p.Rebase(p.State())
	holds(t, p, "rebased", "599 in [599] marks []", l[0])
	for range 299 {
		accepted(t, p.Push(l[1]))
	}
	refused(t, p, "full behind a Rebase", api.ErrFull, func() error { return p.Push(l[0]) })
}

func TestP23_1Undo(t *testing.T) {
	l := several(t, 4)
	p := pushed(t, l...)
	for _, n := range []int{0, -1, 5, 6, 300, math.MinInt, math.MaxInt} {
		refused(t, p, fmt.Sprint("undo ", n), api.ErrState, func() error { return p.Undo(n) })
	}
	accepted(t, p.Undo(1))
	holds(t, p, "one", "3 in [0 1 2 3] marks []", l[2])
	accepted(t, p.Undo(2))
	holds(t, p, "two more", "1 in [0 1] marks []", l[0])
	refused(t, p, "as many as there are", api.ErrState, func() error { return p.Undo(2) })
	accepted(t, p.Undo(1))
	holds(t, p, "all but the first one", "0 in [0] marks []", doc.New())
	refused(t, p, "the first one", api.ErrState, func() error { return p.Undo(1) })
	all := pushed(t, l...)
	accepted(t, all.Undo(4))
	holds(t, all, "all at once", "0 in [0] marks []", doc.New())
}

func TestP23_1Back(t *testing.T) {
	l := several(t, 5)
	p := pushed(t, l...)
	for _, n := range []int{-1, 6, 7, 300, math.MinInt, math.MaxInt} {
		refused(t, p, fmt.Sprint("back ", n), api.ErrState, func() error { return p.Back(n) })
	}
	accepted(t, p.Back(5))
	holds(t, p, "the present one", "5 in [0 1 2 3 4 5] marks []", l[4])
	accepted(t, p.Back(3))
	holds(t, p, "back", "3 in [0 1 2 3] marks []", l[2])
	refused(t, p, "one that has gone", api.ErrState, func() error { return p.Back(4) })
	accepted(t, p.Push(l[4]))
	// 4 and 5 were had ahead.
	holds(t, p, "pushed", "6 in [0 1 2 3 6] marks []", l[4])
	refused(t, p, "a number's place in the row", api.ErrState, func() error { return p.Back(4) })
	accepted(t, p.Back(1))
	holds(t, p, "the second one", "1 in [0 1] marks []", l[0])
	accepted(t, p.Back(0))
	holds(t, p, "the first one", "0 in [0] marks []", doc.New())
	accepted(t, p.Back(0))
	holds(t, p, "the first one, which is the present one", "0 in [0] marks []", doc.New())
}

func TestP23_1NumbersAreNew(t *testing.T) {
	l := several(t, 3)
	p := pushed(t, l...)
	accepted(t, p.Undo(3))
	accepted(t, p.Push(l[1]))
	holds(t, p, "behind an undo", "4 in [0 4] marks []", l[1])
	accepted(t, p.Back(0))
	accepted(t, p.Push(l[2]))
	holds(t, p, "behind a back", "5 in [0 5] marks []", l[2])
	accepted(t, p.Mark("m"))
	accepted(t, p.Push(l[0]))
	accepted(t, p.Restore("m"))
	accepted(t, p.Push(l[1]))
	holds(t, p, "behind a restore", `7 in [0 5 7] marks ["m"]`, l[1])
}

func TestP23_1Mark(t *testing.T) {
	l := several(t, 3)
	p := pushed(t, l...)
	for _, name := range []string{"b", "", "c", "a", "aa", "ä", "B", "a name of more than any 24 bytes\x00"} {
		accepted(t, p.Mark(name))
	}
	holds(t, p, "rising", `3 in [0 1 2 3] marks ["" "B" "a" "a name of more than any 24 bytes\x00" "aa" "b" "c" "ä"]`, l[2])
	if !slices.IsSorted(p.Marks()) {
		t.Error("the marks don't rise")
	}
	p = pushed(t, l...)
	accepted(t, p.Mark("m"))
	accepted(t, p.Mark("m"))
	holds(t, p, "once more", `3 in [0 1 2 3] marks ["m"]`, l[2])
	accepted(t, p.Undo(2))
	holds(t, p, "undone: the mark is there, its state isn't", `1 in [0 1] marks ["m"]`, l[0])
	refused(t, p, "a state that has gone", api.ErrState, func() error { return p.Restore("m") })
	accepted(t, p.Mark("m"))
	accepted(t, p.Push(l[2]))
	accepted(t, p.Restore("m"))
	holds(t, p, "the name stands for another state now", `1 in [0 1] marks ["m"]`, l[0])
}

func TestP23_1MarkFull(t *testing.T) {
	l := several(t, 2)
	p := pushed(t, l[0])
	for i := range 20 {
		accepted(t, p.Mark(fmt.Sprint("m", i)))
	}
	if len(p.Marks()) != 20 {
		t.Fatalf("%d marks", len(p.Marks()))
	}
	for _, name := range []string{"", "m", "m20", "z"} {
		refused(t, p, "a new name", api.ErrFull, func() error { return p.Mark(name) })
		refused(t, p, "it isn't there", api.ErrState, func() error { return p.Restore(name) })
	}
	accepted(t, p.Push(l[1]))
	accepted(t, p.Mark("m7"))
	if len(p.Marks()) != 20 {
		t.Errorf("%d marks", len(p.Marks()))
	}
	accepted(t, p.Push(l[0]))
	accepted(t, p.Restore("m7"))
	if p.State() != 2 {
		t.Errorf("at %d", p.State())
	}
	// Names whose states have gone take room too.
	accepted(t, p.Back(0))
	refused(t, p, "a new name", api.ErrFull, func() error { return p.Mark("new") })
	accepted(t, p.Mark("m19"))
	p.Rebase(0)
	accepted(t, p.Mark("new"))
	holds(t, p, "rebased", `0 in [0] marks ["new"]`, doc.New())
}

func TestP23_1Restore(t *testing.T) {
	l := several(t, 4)
	p := past.New()
	refused(t, p, "no mark", api.ErrState, func() error { return p.Restore("") })
	accepted(t, p.Mark("first"))
	accepted(t, p.Push(l[0]))
	accepted(t, p.Push(l[1]))
	accepted(t, p.Mark("m"))
	accepted(t, p.Mark("n"))
	refused(t, p, "no such mark", api.ErrState, func() error { return p.Restore("mn") })
	refused(t, p, "no such mark", api.ErrState, func() error { return p.Restore("M") })
	accepted(t, p.Restore("m"))
	holds(t, p, "the present one", `2 in [0 1 2] marks ["first" "m" "n"]`, l[1])
	accepted(t, p.Push(l[2]))
	accepted(t, p.Push(l[3]))
	accepted(t, p.Restore("n"))
	holds(t, p, "restored", `2 in [0 1 2] marks ["first" "m" "n"]`, l[1])
	accepted(t, p.Restore("m"))
	accepted(t, p.Restore("first"))
	holds(t, p, "the first one", `0 in [0] marks ["first" "m" "n"]`, doc.New())
	refused(t, p, "a state that has gone", api.ErrState, func() error { return p.Restore("m") })
	accepted(t, p.Push(l[2]))
	accepted(t, p.Push(l[2]))
	refused(t, p, "the state in its place is another one", api.ErrState, func() error { return p.Restore("m") })
	accepted(t, p.Restore("first"))
}

func TestP23_1Rebase(t *testing.T) {
	l := several(t, 4)
	p := pushed(t, l[:3]...)
	accepted(t, p.Mark("m"))
	p.Rebase(3)
	holds(t, p, "its own number", "3 in [3] marks []", l[2])
	refused(t, p, "nothing to undo", api.ErrState, func() error { return p.Undo(1) })
	refused(t, p, "a state that has gone", api.ErrState, func() error { return p.Back(2) })
	refused(t, p, "a mark that has gone", api.ErrState, func() error { return p.Restore("m") })
	accepted(t, p.Back(3))
	accepted(t, p.Push(l[3]))
	holds(t, p, "pushed", "4 in [3 4] marks []", l[3])
	accepted(t, p.Mark("k"))
	p.Rebase(1)
	holds(t, p, "a number that was had ahead", "1 in [1] marks []", l[3])
	accepted(t, p.Push(l[0]))
	holds(t, p, "that and 1", "2 in [1 2] marks []", l[0])
	accepted(t, p.Undo(1))
	holds(t, p, "undone", "1 in [1] marks []", l[3])
	p.Rebase(100)
	accepted(t, p.Push(l[1]))
	accepted(t, p.Push(l[2]))
	holds(t, p, "a greater number", "102 in [100 101 102] marks []", l[2])
	refused(t, p, "a place in the row", api.ErrState, func() error { return p.Back(0) })
	refused(t, p, "a place in the row", api.ErrState, func() error { return p.Back(1) })
	accepted(t, p.Back(101))
	holds(t, p, "back", "101 in [100 101] marks []", l[1])
	accepted(t, p.Back(100))
	holds(t, p, "back", "100 in [100] marks []", l[3])
}

// Any number may be handed to Rebase.
func TestP23_1RebaseAnyNumber(t *testing.T) {
	l := several(t, 3)
	p := pushed(t, l[0])
	p.Rebase(-2)
	holds(t, p, "below 0", "-2 in [-2] marks []", l[0])
	accepted(t, p.Push(l[1]))
	accepted(t, p.Mark("m"))
	accepted(t, p.Push(l[2]))
	holds(t, p, "below 0", `0 in [-2 -1 0] marks ["m"]`, l[2])
	accepted(t, p.Restore("m"))
	accepted(t, p.Back(-2))
	p.Rebase(0)
	holds(t, p, "0", "0 in [0] marks []", l[0])
	accepted(t, p.Push(l[1]))
	holds(t, p, "0", "1 in [0 1] marks []", l[1])
	for _, n := range []int{math.MinInt, math.MaxInt - 1} {
		p.Rebase(n)
		accepted(t, p.Push(l[2]))
		holds(t, p, "far off", fmt.Sprintf("%d in [%d %d] marks []", n+1, n, n+1), l[2])
		accepted(t, p.Undo(1))
		refused(t, p, "nothing to undo", api.ErrState, func() error { return p.Undo(1) })
	}
	// Nothing is promised of the number behind the greatest one, but that there is a state.
	p.Rebase(math.MaxInt)
	accepted(t, p.Push(l[2]))
	accepted(t, p.Undo(1))
	holds(t, p, "the greatest", fmt.Sprintf("%d in [%d] marks []", math.MaxInt, math.MaxInt), l[1])
}

// What is refused tells what is wrong with it.
func TestP23_1Told(t *testing.T) {
	p := past.New()
	accepted(t, p.Push(doc.New()))
	accepted(t, p.Mark("m"))
	accepted(t, p.Undo(1))
	seen := map[string]int{}
	for i, err := range []error{p.Undo(0), p.Back(1), p.Restore("none"), p.Restore("m")} {
		text := err.Error()
		if j, ok := seen[text]; ok {
			t.Errorf("%d and %d: %q", j, i, text)
		}
		seen[text] = i
	}
}

// One goes back to what was there, however long ago.
func TestP23_2Back(t *testing.T) {
	p := past.New()
	var l []*doc.Doc
	for _, line := range []string{
		"family nat 0 : Type0 { o : nat ; s : nat -> nat } .", "space a .", "axiom n : nat .", "section b .", "var v : Type0 .", "def one : nat := s o .", "end b .", "end a .",
	} {
		l = append(l, p.Now())
		accepted(t, p.Push(made(t, p.Now(), line)))
	}
	for i := len(l) - 1; i >= 0; i -= 2 {
		accepted(t, p.Back(i))
		if !doc.Same(p.Now(), l[i]) || p.State() != i {
			t.Errorf("state %d isn't what it was", i)
		}
	}
	// Another way on from an old state.
	accepted(t, p.Push(made(t, p.Now(), "axiom other : Type0 .")))
	d := p.Now()
	accepted(t, p.Push(made(t, d, "space c .")))
	accepted(t, p.Undo(1))
	if !doc.Same(p.Now(), d) || doc.Same(p.Now(), l[1]) {
		t.Error("not what it was")
	}
}
