package session_test

import (
	"fmt"
	"math/rand"
	"slices"
	"testing"

	"vademecum/api"
	"vademecum/disk"
	"vademecum/doc"
	"vademecum/keep"
	"vademecum/session"
	"vademecum/talk"
)

// image is all that is on a disk.
func image(t *testing.T, d *disk.Disk) string {
	t.Helper()
	all := ""
	for i := range d.Len() {
		b, err := d.Read(i)
		if err != nil {
			t.Fatal(err)
		}
		all += b
	}
	return all
}

// sameTalks fails the test where two talks aren't the same, in all their states.
func sameTalks(t *testing.T, what string, a, b *talk.Talk) {
	t.Helper()
	for {
		if tellTalk(a) != tellTalk(b) || !doc.Same(a.Past().Now(), b.Past().Now()) {
			t.Fatalf("%s: %s and %s", what, tellTalk(a), tellTalk(b))
		}
		if len(a.Past().States()) == 1 {
			return
		}
		if a.Past().Undo(1) != nil || b.Past().Undo(1) != nil {
			t.Fatalf("%s: can't be undone", what)
		}
	}
}

// spoken is a session to which random lines were said, and these.
func spoken(t *testing.T, seed int64, sectors, n int) (*session.Session, []string) {
	t.Helper()
	s := started(t, sectors)
	k := &maker{r: rand.New(rand.NewSource(seed)), p: s.Talk().Past()}
	var lines []string
	for range n {
		lines = append(lines, k.line())
		s.Say(lines[len(lines)-1])
	}
	return s, lines
}

// Where there is room and power, a session is a talk.
func TestP26_2IsATalk(t *testing.T) {
	for seed := range int64(60) {
		s, lines := spoken(t, seed, 400, 80)
		x, y := talk.New(enough), started(t, 400)
		for i, line := range lines {
			if a, b := x.Say(line), y.Say(line); a != b {
				t.Fatalf("seed %d, line %d, %q: %v; of a talk %v", seed, i, line, b, a)
			}
		}
		// The same makes the same, on the disk too.
		if image(t, s.Disk()) != image(t, y.Disk()) || tell(s) != tell(y) || s.Disk().Writes() != y.Disk().Writes() {
			t.Fatalf("seed %d: not the same", seed)
		}
		sameTalks(t, fmt.Sprint("seed ", seed), x, y.Talk())
	}
}

// What is recovered is what was, and goes on like it; recovered again it is the same, and nothing is written for it.
func TestP26_3RecoveredGoesOn(t *testing.T) {
	for seed := range int64(80) {
		s, _ := spoken(t, seed, 400, 60)
		says(t, s, "commit .")
		was, all := s.Disk().Writes(), image(t, s.Disk())
		d := s.Disk()
		d.Crash(nil, -1)
		if image(t, d) != all {
			t.Fatalf("seed %d: a commit was lost", seed)
		}
		a, b := recovered(t, d), recovered(t, d)
		if tell(a) != tell(s) || tell(b) != tell(s) || d.Writes() != was || image(t, d) != all {
			t.Fatalf("seed %d: recovered %s, then %s; was %s", seed, tell(a), tell(b), tell(s))
		}
		k := &maker{r: rand.New(rand.NewSource(seed)), p: s.Talk().Past()}
		x := s.Talk()
		for range 25 {
			line := k.line()
			if got, want := b.Say(line), x.Say(line); got != want {
				t.Fatalf("seed %d: %q: %v; want %v", seed, line, got, want)
			}
		}
		sameTalks(t, fmt.Sprint("seed ", seed), b.Talk(), x)
	}
}

// To compact changes nothing of the document nor of what comes of what is said next, but for the states ahead and the marks.
func TestP26_2CompactedGoesOn(t *testing.T) {
	on := 0
	for seed := range int64(80) {
		s, _ := spoken(t, seed, 600, 60)
		for opens := s.Talk().Past().Now().Opens(); len(opens) > 0; opens = s.Talk().Past().Now().Opens() {
			says(t, s, "end "+opens[len(opens)-1].Name+" .")
		}
		x := talk.New(enough)
		if err := x.Past().Push(s.Talk().Past().Now()); err != nil {
			t.Fatal(err)
		}
		state := s.Talk().Past().State()
		x.Past().Rebase(state)
		if err := s.Compact(); err != nil {
			isError(t, "compact", err, api.ErrFuel) // what a section's end made takes more fuel
			continue
		}
		on++
		again := recovered(t, s.Disk())
		k := &maker{r: rand.New(rand.NewSource(seed)), p: x.Past()}
		for range 25 {
			line := k.line()
			want := x.Say(line)
			if a, b := s.Say(line), again.Talk().Say(line); a != want || b != want {
				t.Fatalf("seed %d: %q: %v, recovered %v; want %v", seed, line, a, b, want)
			}
		}
		sameTalks(t, fmt.Sprint("seed ", seed), again.Talk(), x)
		if tellTalk(s.Talk()) != tellTalk(recovered(t, s.Disk()).Talk()) {
			t.Fatalf("seed %d: %s", seed, tell(s))
		}
	}
	if on < 70 {
		t.Errorf("%d went on", on)
	}
}

// What is refused, for whatever reason, leaves the log as if it had never been said: said without it, all is the same.
func TestP26_2RefusedLeavesNoTrace(t *testing.T) {
	refused := 0
	for seed := range int64(120) {
		s := started(t, 20+int(seed)%30)
		k := &maker{r: rand.New(rand.NewSource(seed)), p: s.Talk().Past()}
		var accepted []string
		for range 90 {
			line := k.line()
			if s.Say(line).Err == 0 {
				accepted = append(accepted, line)
			} else {
				refused++
			}
		}
		without := saysAll(t, started(t, s.Disk().Len()), accepted)
		if image(t, s.Disk()) != image(t, without.Disk()) || tell(s) != tell(without) {
			t.Fatalf("seed %d: %s; without it %s", seed, tell(s), tell(without))
		}
		again := recovered(t, s.Disk())
		for _, line := range probes {
			a, b, c := s.Talk().Say(line), without.Talk().Say(line), again.Talk().Say(line)
			if a != b || c != b {
				t.Fatalf("seed %d: %q: %v, without it %v, recovered %v", seed, line, a, b, c)
			}
		}
		sameTalks(t, fmt.Sprint("seed ", seed), s.Talk(), without.Talk())
	}
	if refused < 3000 {
		t.Errorf("%d refused", refused)
	}
}

// saysAll says lines that must be accepted, whatever text they are answered with.
func saysAll(t *testing.T, s *session.Session, lines []string) *session.Session {
	t.Helper()
	for _, line := range lines {
		if r := s.Say(line); r.Err != 0 {
			t.Fatalf("%q: %v", line, r)
		}
	}
	return s
}

// Of a session every beginning may be what is left; each is what was then.
func TestP26_3Beginnings(t *testing.T) {
	for seed := range int64(12) {
		s, _ := spoken(t, seed, 300, 50)
		l := logOf(t, s.Disk())
		for n := range len(l) + 1 {
			cut := recovered(t, laid(t, 300, l[:n]...))
			// What was said behind it, said again, makes all of it.
			for _, b := range l[n:] {
				r, err := keep.Read(b)
				if err != nil {
					t.Fatal(err)
				}
				if r.Kind == api.RCommit {
					r.Text = "commit ."
				}
				says(t, cut, r.Text)
			}
			if !slices.Equal(logOf(t, cut.Disk()), l) || tell(cut) != tell(s) {
				t.Fatalf("seed %d, %d records: %s; was %s", seed, n, tell(cut), tell(s))
			}
		}
	}
}
