package session_test

import (
	"fmt"
	"slices"
	"strings"
	"testing"

	"vademecum/api"
	"vademecum/disk"
	"vademecum/doc"
	"vademecum/keep"
	"vademecum/sent"
	"vademecum/session"
	"vademecum/talk"
)

// longer is a line, to be said behind the family nat, that is printed in n bytes.
func longer(n int) string {
	for parts := 1; ; parts++ {
		for name := 1; name <= api.MaxName; name++ {
			line := "axiom " + strings.Repeat("a", name) + " : " + strings.Repeat("nat -> ", parts) + "nat ."
			if x, err := sent.Parse(line); err == nil && len(sent.Print(x)) == n {
				return line
			}
		}
	}
}

// unsayable is a session of which not all can be said again: what a section let go takes more fuel than there is.
func unsayable(t *testing.T, sectors int) *session.Session {
	t.Helper()
	return says(t, startedWith(t, sectors, 12), "section q .", "var A : Type0 .", "var x : A .", "def b : A -> A := fun u : A => x .", "end q .")
}

// handed is a session whose talk was handed a document that these lines make, with as much fuel as there may be.
func handed(t *testing.T, s *session.Session, lines ...string) *session.Session {
	t.Helper()
	x := talk.New(api.MaxFuel)
	for _, line := range lines {
		if r := x.Say(line); r.Err != 0 {
			t.Fatalf("%.100q: %v", line, r)
		}
	}
	if err := s.Talk().Past().Push(x.Past().Now()); err != nil {
		t.Fatal(err)
	}
	return s
}

func TestP26_2Compact(t *testing.T) {
	s := says(t, started(t, 60), nats, "axiom a : nat .", "undo 1 .", "space q .", "def b : nat := s o .", "mark m .", "end q .", "axiom c : nat .", "undo 1 .")
	holds(t, s, `9 records, 5 in [0 1 3 4 5] marks ["m"]`, nats, "space q .", "def b : nat := s o .", "end q .")
	now := s.Talk().Past().Now()
	compacted(t, s)
	holds(t, s, "3 records, 5 in [5] marks []", nats, "space q .", "def b : nat := s o .", "end q .")
	logs(t, s, base(5, toldNats), base(5, "def q.b : nat := s o ."), commit)
	if s.Disk().Loose() != 0 || turnOf(t, s.Disk()) != 2 || !doc.Same(s.Talk().Past().Now(), now) {
		t.Errorf("%d loose, turn %d", s.Disk().Loose(), turnOf(t, s.Disk()))
	}
	refuses(t, s, api.ErrState, "undo 1 .", "restore m .", "back 4 .", "back 0 .")
	says(t, s, "back 5 .", "axiom d : nat .", "mark m .", "axiom e : nat .", "restore m .", "axiom f : nat .")
	holds(t, s, `9 records, 8 in [5 6 8] marks ["m"]`, nats, "def q.b : nat := s o .", "axiom d : nat .", "axiom f : nat .")
	s.Disk().Crash(slices.Repeat([]bool{true}, 30), -1)
	s = recovered(t, s.Disk())
	holds(t, s, `9 records, 8 in [5 6 8] marks ["m"]`, nats, "def q.b : nat := s o .", "axiom d : nat .", "axiom f : nat .")
	says(t, s, "restore m .", "undo 1 .", "axiom g : nat .")
	holds(t, s, `12 records, 9 in [5 9] marks ["m"]`, nats, "def q.b : nat := s o .", "axiom g : nat .")
	// What lay behind the compacted log goes.
	compacted(t, s)
	logs(t, s, base(9, toldNats), base(9, "def q.b : nat := s o ."), base(9, "axiom g : nat ."), commit)
	s.Disk().Crash(nil, -1)
	holds(t, recovered(t, s.Disk()), "4 records, 9 in [9] marks []", nats, "def q.b : nat := s o .", "axiom g : nat .")
}

// What wasn't committed lasts behind it, as what was.
func TestP26_2CompactLasts(t *testing.T) {
	s := says(t, started(t, 60), nats, "commit .", "axiom a : nat .", "mark m .")
	compacted(t, s)
	s.Disk().Crash(nil, -1)
	s = recovered(t, s.Disk())
	holds(t, s, "3 records, 2 in [2] marks []", nats, "axiom a : nat .")
	says(t, s, "axiom b : nat .")
	s.Disk().Crash(nil, -1)
	holds(t, recovered(t, s.Disk()), "3 records, 2 in [2] marks []", nats, "axiom a : nat .")
}

// Of no sentences, the state is told all the same.
func TestP26_2CompactOfNone(t *testing.T) {
	s := started(t, 20)
	compacted(t, s)
	holds(t, s, "2 records, 0 in [0] marks []")
	logs(t, s, base(0, ""), commit)
	says(t, s, "space q .", "end q .", "mark m .")
	compacted(t, s)
	holds(t, s, "2 records, 2 in [2] marks []")
	logs(t, s, base(2, ""), commit)
	says(t, s, "axiom a : Type0 .", "commit .", "undo 1 .", "space q .")
	s.Disk().Crash(nil, -1)
	s = recovered(t, s.Disk())
	holds(t, s, "4 records, 3 in [2 3] marks []", "axiom a : Type0 .")
	says(t, s, "undo 1 .")
	compacted(t, s)
	logs(t, s, base(2, ""), commit)
	answers(t, s, "space q .", 3, "")
}

// Again and again, in one half and in the other one.
func TestP26_2CompactTurns(t *testing.T) {
	s := says(t, started(t, 20), nats)
	for i := range 300 {
		says(t, s, "axiom a : nat .", "undo 1 .", "axiom b : nat .", "undo 1 .")
		compacted(t, s)
		if got := turnOf(t, s.Disk()); got != i+2 || s.Len() != 2 || left(t, s) != roomOf(s.Disk())-sizeOf(i+2, 0, bytesOf(base(1, toldNats), commit)...) {
			t.Fatalf("%d: turn %d, %s", i, got, tell(s))
		}
		if i%7 == 0 {
			s = recovered(t, s.Disk())
		}
	}
	holds(t, s, "2 records, 1 in [1] marks []", nats)
}

// While anything is open there is no base.
func TestP26_2CompactOpen(t *testing.T) {
	for _, lines := range [][]string{{"space q ."}, {"section q ."}, {"section q .", "var A : Type0 ."}, {"space q .", "section r .", "end r ."}} {
		s := says(t, started(t, 60), slices.Concat([]string{nats, "mark m ."}, lines)...)
		notCompacted(t, s, "open", api.ErrOpen)
		isAsIfNever(t, s, slices.Concat([]string{nats, "mark m ."}, lines)...)
		s = says(t, recovered(t, s.Disk()), "end q .")
		compacted(t, s)
	}
}

// Sentences of just so many bytes as a line may have, and of one more.
func TestP26_2CompactLongLines(t *testing.T) {
	s := says(t, started(t, 200), nats, longer(api.MaxLine))
	compacted(t, s)
	now := s.Talk().Past().Now()
	s.Disk().Crash(nil, -1)
	if again := recovered(t, s.Disk()); tell(again) != "3 records, 2 in [2] marks []" || !doc.Same(again.Talk().Past().Now(), now) {
		t.Errorf("recovered %s", tell(again))
	}
	for _, lines := range [][]string{{nats, longer(api.MaxLine + 1)}, {nats, longer(api.MaxLine + 300), "mark m .", "axiom b : nat ."}} {
		s = says(t, started(t, 200), lines...)
		notCompacted(t, s, "a long sentence", api.ErrLarge)
		isAsIfNever(t, s, lines...)
		compacted(t, says(t, recovered(t, s.Disk()), "back 1 ."))
	}
}

// What can't be said again with the session's fuel isn't taken for what can.
func TestP26_2CompactFuel(t *testing.T) {
	s := unsayable(t, 60)
	notCompacted(t, s, "not enough fuel", api.ErrFuel)
	holds(t, s, "5 records, 5 in [0 1 2 3 4 5] marks []", "section q .", "var A : Type0 .", "var x : A .", "def b : A -> A := fun u : A => x .", "end q .")
	// It is all in the log, and with more fuel it may be compacted.
	says(t, s, "commit .")
	s.Disk().Crash(nil, -1)
	more := recovered(t, s.Disk())
	compacted(t, more)
	holds(t, more, "2 records, 5 in [5] marks []", "section q .", "var A : Type0 .", "var x : A .", "def b : A -> A := fun u : A => x .", "end q .")
	// Be it the first sentence, or one in the middle, or the last one.
	long := "axiom a : " + strings.Repeat("nat -> ", 40) + "nat ."
	for _, lines := range [][]string{{nats, long}, {nats, "axiom b : nat .", long, "axiom c : nat .", "def d : nat := s c ."}} {
		s = handed(t, startedWith(t, 60, 40), lines...)
		notCompacted(t, s, "not enough fuel", api.ErrFuel)
		compacted(t, handed(t, started(t, 60), lines...))
		says(t, s, "undo 1 ."+strings.Repeat(" ", 9), nats)
		compacted(t, s)
	}
	// Just as much as is needed.
	line := "axiom a : Type0 -> Type0 -> Type0 ."
	least := 0
	for ; talk.New(least).Say(line).Err != 0; least++ {
	}
	notCompacted(t, handed(t, startedWith(t, 30, least-1), line), "one too few", api.ErrFuel)
	compacted(t, handed(t, startedWith(t, 30, least), line))
	compacted(t, handed(t, startedWith(t, 30, 1<<40), line))
}

// A number of a state that Recover couldn't read.
func TestP26_2CompactNumbers(t *testing.T) {
	for n, want := range map[int]api.Errno{-1: api.ErrFuel, 1 << 20: api.OK, 1<<56 - 1: api.OK, 1 << 56: api.ErrFuel, 1<<63 - 1: api.ErrFuel, -1 << 63: api.ErrFuel} {
		for _, lines := range [][]string{nil, {"axiom a : Type0 ."}} {
			s := says(t, started(t, 30), lines...)
			s.Talk().Past().Rebase(n)
			if want != api.OK {
				notCompacted(t, s, fmt.Sprint("state ", n), want)
				continue
			}
			compacted(t, s)
			s.Disk().Crash(nil, -1)
			holds(t, recovered(t, s.Disk()), fmt.Sprintf("2 records, %d in [%d] marks []", n, n), lines...)
		}
	}
	// A sentence that is no longer than a line, with a number that makes the record too large.
	for n, want := range map[int]api.Errno{1<<49 - 1: api.OK, 1 << 49: api.ErrLarge} {
		s := says(t, started(t, 200), nats, longer(api.MaxLine))
		s.Talk().Past().Rebase(n)
		if want == api.OK {
			compacted(t, s)
		} else {
			notCompacted(t, s, "too large a record", want)
		}
	}
}

// Of sentences that have room to the last byte, and of ones that don't.
func TestP26_2CompactNoRoom(t *testing.T) {
	found := map[int]bool{}
	for sectors := 8; sectors < 16; sectors++ {
		for parts := range 12 {
			for name := 1; name <= api.MaxName; name++ {
				line := "axiom " + strings.Repeat("a", name) + " : " + strings.Repeat("nat -> ", parts) + "nat ."
				x, err := sent.Parse(line)
				if err != nil {
					t.Fatal(err)
				}
				more := sizeOf(2, 0, bytesOf(base(2, toldNats), base(2, sent.Print(x)), commit)...) - roomOf(disk.New(sectors))
				if more != 0 && more != 1 || sizeOf(1, 0, bytesOf(said(nats, line)...)...) > roomOf(disk.New(sectors)) {
					continue
				}
				found[more] = true
				s := says(t, started(t, sectors), nats, line)
				if more == 0 {
					compacted(t, s)
					holds(t, s, "3 records, 2 in [2] marks []", nats, line)
					refuses(t, s, api.ErrFull, "commit .", "space q .", "mark m .")
					continue
				}
				notCompacted(t, s, "no room", api.ErrFull)
				isAsIfNever(t, recovered(t, s.Disk()), nats, line)
				compacted(t, says(t, s, "undo 1 ."))
			}
		}
	}
	if len(found) != 2 {
		t.Errorf("found %v", found)
	}
}

// The first error in the chapter's order is told.
func TestP26_2CompactOrder(t *testing.T) {
	long, costly := longer(api.MaxLine+1), "axiom b : "+strings.Repeat("nat -> ", 30)+"nat ."
	for _, c := range []struct {
		want    api.Errno
		sectors int
		lines   []string
	}{
		{api.ErrOpen, 5, []string{nats, long, costly, "space q ."}},
		{api.ErrOpen, 5, []string{nats, "section q ."}},
		{api.ErrLarge, 5, []string{nats, long, costly}},
		{api.ErrLarge, 5, []string{nats, costly, long}},
		{api.ErrFuel, 5, []string{nats, costly}},
		{api.ErrFull, 5, []string{"axiom aaaaaaaaaaaaaaaaaaaa : Type0 .", "axiom bbbbbbbbbbbbbbbbbbbb : Type0 ."}},
		{api.ErrDead, 60, []string{"axiom a : Type0 .", "axiom b : Type0 ."}},
	} {
		s := handed(t, startedWith(t, c.sectors, 5), c.lines...)
		s.Disk().Cut(0)
		what := fmt.Sprintf("%.60q", c.lines)
		notCompacted(t, s, what, c.want)
		if got := s.Say("mark m ."); got.Err != int(api.ErrDead) {
			t.Errorf("%s: %v", what, got)
		}
		if c.want == api.ErrFull {
			c.want = api.ErrDead // what the journal tells once it is dead
		}
		notCompacted(t, s, what, c.want)
	}
}

// Wherever the power goes, nothing is changed, and all that was there is there.
func TestP26_2CompactWithoutPower(t *testing.T) {
	lines := []string{nats, "axiom a : nat .", "mark m .", "space q .", "end q .", "undo 2 .", "commit ."}
	const sectors, half = 22, 10
	for cut := range half + 2 {
		for _, kept := range []bool{false, true} {
			s := says(t, started(t, sectors), lines...)
			s.Disk().Cut(cut)
			if cut > half {
				compacted(t, s)
				s.Disk().Crash(nil, -1)
				holds(t, recovered(t, s.Disk()), "3 records, 2 in [2] marks []", nats, "axiom a : nat .")
				continue
			}
			x, writes := s.Talk(), s.Disk().Writes()
			isError(t, "compact", s.Compact(), api.ErrDead)
			if s.Talk() != x || s.Disk().Writes() != writes+cut {
				t.Errorf("cut %d: %d writes", cut, s.Disk().Writes()-writes)
			}
			holds(t, s, `7 records, 2 in [0 1 2] marks ["m"]`, nats, "axiom a : nat .")
			refuses(t, s, api.ErrDead, "commit .", "mark m .")
			notCompacted(t, s, "again", api.ErrDead)
			isAsIfNever(t, s, lines...)
			s.Disk().Crash(slices.Repeat([]bool{kept}, half+1), -1)
			again := recovered(t, s.Disk())
			holds(t, again, `7 records, 2 in [0 1 2] marks ["m"]`, nats, "axiom a : nat .")
			isAsIfNever(t, again, lines...)
			compacted(t, recovered(t, s.Disk()))
		}
	}
}

// What was compacted says what keep's Base says of the document.
func TestP26_2CompactIsTheBase(t *testing.T) {
	s := says(t, started(t, 200), nats, "space a .", "axiom x : nat .", "section b .", "var A : Type0 .", "space c .", "family f 0 : Type0 { o : f ; p : nat -> f -> f } .",
		"def id : A -> A := fun y : A => y .", "end c .", "axiom z : c.f .", "var v : A .", "def w : A := c.id v .", "end b .", "end a .", "axiom x : a.c.f .", "mark m .")
	lines, ok := keep.Base(s.Talk().Past().Now())
	if !ok || len(lines) != 7 {
		t.Fatalf("%q", lines)
	}
	state := s.Talk().Past().State()
	var want []api.Record
	for _, line := range lines {
		want = append(want, base(state, line))
	}
	now := s.Talk().Past().Now()
	compacted(t, s)
	logs(t, s, append(want, commit)...)
	again := recovered(t, s.Disk())
	if tell(again) != tell(s) || !doc.Same(again.Talk().Past().Now(), now) || !doc.Same(s.Talk().Past().Now(), now) {
		t.Errorf("recovered %s; was %s", tell(again), tell(s))
	}
}
