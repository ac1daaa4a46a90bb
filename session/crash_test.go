package session_test

import (
	"fmt"
	"math/rand"
	"slices"
	"testing"

	"vademecum/api"
	"vademecum/disk"
	"vademecum/doc"
	"vademecum/keep"
	"vademecum/session"
)

// possible tells what may be there behind a crash.
type possible struct {
	log    []api.Record // a beginning of these
	sure   int          // of so many at least
	new    []api.Record // or just these
	either bool
}

const compact = "! compact"

// told tells a session lines on a new disk, up to the first that is answered by an error, with the power gone at some Write (below 0: never); and what may be there then.
func told(t *testing.T, sectors int, lines []string, cut int) (*disk.Disk, possible) {
	t.Helper()
	s := started(t, sectors)
	s.Disk().Cut(cut)
	var m possible
	for _, line := range lines {
		if line == compact {
			l, _ := keep.Base(s.Talk().Past().Now())
			state := s.Talk().Past().State()
			m.new = nil
			for _, text := range l {
				m.new = append(m.new, base(state, text))
			}
			m.new = append(m.new, commit)
			if err := s.Compact(); err != nil {
				isError(t, compact, err, api.ErrDead)
				m.either = true
				return s.Disk(), m
			}
			m.log, m.sure = m.new, len(m.new)
			continue
		}
		if r := s.Say(line); r.Err != 0 {
			if r.Err != int(api.ErrDead) {
				t.Fatalf("%q: %v", line, r)
			}
			break
		}
		if line == "commit ." {
			m.log = append(slices.Clone(m.log), commit)
			m.sure = len(m.log)
		} else {
			m.log = append(slices.Clone(m.log), said(line)...)
		}
	}
	return s.Disk(), m
}

// comesBack recovers a session behind a crash, and holds that it may be this one, that it stays so, and that it goes on.
func comesBack(t *testing.T, d *disk.Disk, m possible, what ...any) {
	t.Helper()
	s := recovered(t, d)
	got := logOf(t, d)
	all := bytesOf(m.log...)
	isOld := len(got) >= m.sure && len(got) <= len(all) && slices.Equal(got, all[:len(got)])
	isNew := m.either && slices.Equal(got, bytesOf(m.new...))
	if !isOld && !isNew {
		t.Fatalf("%v: %q; want of %q the first %d, or %q", what, got, all, m.sure, bytesOf(m.new...))
	}
	l := m.log
	if !isOld {
		l = m.new
	}
	isReplayed(t, s, l[:len(got)], what)
	isReplayed(t, recovered(t, d), l[:len(got)], what)
	// What is said then lasts, and nothing that was lost comes back.
	line := fmt.Sprintf("mark again .%*s", 40, "")
	says(t, s, line, "commit .")
	d.Crash(nil, -1)
	isReplayed(t, recovered(t, d), append(slices.Clone(l[:len(got)]), said(line)[0], commit), what)
}

// isReplayed fails the test where a session isn't what these records make.
func isReplayed(t *testing.T, s *session.Session, l []api.Record, what []any) {
	t.Helper()
	x, n := keep.Replay(enough, l)
	want := fmt.Sprintf("%d records, %s", len(l), tellTalk(x))
	if n != len(l) || tell(s) != want || !doc.Same(s.Talk().Past().Now(), x.Past().Now()) {
		t.Fatalf("%v: %s; want %s", what, tell(s), want)
	}
}

// tales are lines for a disk of halves of seven sectors.
var tales = [][]string{
	{nats, "axiom a : nat .", "mark m .", "undo 1 ."},
	{"axiom a : Type0 .", "commit .", "axiom b : a .", "mark m .", "undo 1 .", "commit .", "axiom c : a ."},
	{nats, "commit .", "space q .", "axiom a : nat .", "mark m .", "end q .", "commit .", "restore m .", "def b : nat := s a ."},
	{"section q .", "var A : Type0 .", "commit .", "def id : A -> A := fun x : A => x .", "end q .", "commit .", "undo 2 .", "end q ."},
	{"mark a .", "mark b .", "mark c .", "commit .", "space a .", "restore b .", "space b .", "end b ."},
	{nats, compact, "axiom a : nat .", "undo 1 .", "axiom b : nat ."},
	{nats, "axiom a : nat .", "undo 1 .", compact},
	{"axiom a : Type0 .", "mark m .", "commit .", "axiom b : Type0 .", compact, "axiom c : a .", "commit .", "undo 1 .", compact, "space q ."},
	{"axiom a : Type0 .", compact, compact, "axiom b : a .", compact, "mark m ."},
}

// Wherever the power goes, whatever a crash keeps and tears.
func TestP26_3EveryCrash(t *testing.T) {
	const sectors = 16
	r := rand.New(rand.NewSource(263))
	for i, lines := range tales {
		whole, m := told(t, sectors, lines, -1)
		if m.either || len(m.log) == 0 {
			t.Fatalf("tale %d isn't told", i)
		}
		for cut := range whole.Writes() + 1 {
			d, m := told(t, sectors, lines, cut)
			n := d.Loose()
			for _, kept := range masks(r, n) {
				for torn := -1; torn < n; torn++ {
					if torn >= 0 && !kept[torn] {
						continue
					}
					d, _ := told(t, sectors, lines, cut)
					d.Crash(kept, torn)
					comesBack(t, d, m, i, cut, kept, torn)
				}
			}
		}
	}
}

// masks are all that may be kept of few Writes, and some of many.
func masks(r *rand.Rand, n int) [][]bool {
	var l [][]bool
	add := func(is func(i int) bool) {
		mask := make([]bool, n)
		for i := range mask {
			mask[i] = is(i)
		}
		l = append(l, mask)
	}
	if n <= 5 {
		for bits := range 1 << n {
			add(func(i int) bool { return bits>>i&1 == 1 })
		}
		return l
	}
	for k := range n + 1 {
		add(func(i int) bool { return i < k })
		add(func(i int) bool { return i != k })
	}
	for range 8 {
		add(func(int) bool { return r.Intn(2) == 0 })
	}
	return l
}

// A crash in recovering: it is recovered again, and is the same.
func TestP26_3CrashesInRecover(t *testing.T) {
	r := rand.New(rand.NewSource(264))
	dead := 0
	for n := range 3000 {
		lines := tales[n%len(tales)]
		d, m := told(t, 16, lines, r.Intn(30)-1)
		k := &maker{r: r}
		kept, torn := k.crashed(d.Loose())
		d.Crash(kept, torn)
		for range 1 + r.Intn(3) {
			d.Cut(r.Intn(4))
			s, err := session.Recover(d, enough)
			if err != nil {
				isRefused(t, "recover", s, err, api.ErrDead)
				dead++
			} else {
				got := logOf(t, d)
				if m.either && slices.Equal(got, bytesOf(m.new...)) {
					m.log = m.new
				}
				m.either, m.log, m.sure = false, m.log[:min(len(got), len(m.log))], len(got)
			}
			kept, torn := k.crashed(d.Loose())
			d.Crash(kept, torn)
		}
		comesBack(t, d, m, n)
	}
	if dead < 100 {
		t.Errorf("only %d crashes in recovering", dead)
	}
}

// Where a log holds what can't be done, a crash in recovering leaves it as it was, or without that; what can be done is there in the end.
func TestP26_3CrashesInCompactingRecover(t *testing.T) {
	r := rand.New(rand.NewSource(265))
	k := &maker{r: r}
	good := append(said(nats, "axiom a : nat .", "mark m ."), commit)
	log := append(bytesOf(good...), bytesOf(append(said("axiom b : zz .", "axiom c : nat ."), commit)...)...)
	for cut := range 11 {
		for range 60 {
			d := laid(t, 20, log...)
			d.Cut(cut)
			s, err := session.Recover(d, enough)
			if cut < 10 {
				isRefused(t, "recover", s, err, api.ErrDead)
			} else if err != nil {
				t.Fatal(err)
			}
			kept, torn := k.crashed(d.Loose())
			d.Crash(kept, torn)
			isReplayed(t, recovered(t, d), good, []any{cut, kept, torn})
			if got := logOf(t, d); !slices.Equal(got, bytesOf(good...)) {
				t.Fatalf("cut %d: %q", cut, got)
			}
		}
	}
}

// A commit makes all that was said ahead of it last, however much that is; what is said behind it is lost from the end.
func TestP26_3LossesAreFromTheEnd(t *testing.T) {
	lines := []string{nats}
	for i := range 12 {
		lines = append(lines, fmt.Sprintf("axiom a%d : nat .", i))
	}
	for at := range lines {
		l := slices.Insert(slices.Clone(lines), at+1, "commit .")
		whole, m := told(t, 60, l, -1)
		for lost := range whole.Loose() {
			d, _ := told(t, 60, l, -1)
			kept := slices.Repeat([]bool{true}, d.Loose())
			kept[lost] = false
			d.Crash(kept, -1)
			comesBack(t, d, m, at, lost)
		}
		d, _ := told(t, 60, l, -1)
		d.Crash(slices.Repeat([]bool{true}, d.Loose()), -1)
		if s := recovered(t, d); s.Len() != len(l) {
			t.Errorf("%d: all is kept, but %d of %d", at, s.Len(), len(l))
		}
	}
}
