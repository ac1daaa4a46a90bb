package session_test

import (
	"fmt"
	"runtime"
	"slices"
	"strings"
	"sync"
	"testing"

	"vademecum/api"
	"vademecum/disk"
	"vademecum/doc"
	"vademecum/session"
)

// Sessions on disks of their own have nothing to do with one another.
func TestP26_2Apart(t *testing.T) {
	a, b := says(t, started(t, 30), nats), says(t, startedWith(t, 40, 1), "space a .")
	says(t, a, "mark m .", "axiom n : nat .", "commit .")
	refuses(t, b, api.ErrState, "restore m .")
	refuses(t, b, api.ErrName, "print n .")
	refuses(t, b, api.ErrFuel, "check Type0 -> Type0 .")
	says(t, b, "mark n .", "undo 1 .")
	holds(t, a, `4 records, 2 in [0 1 2] marks ["m"]`, nats, "axiom n : nat .")
	holds(t, b, `3 records, 0 in [0] marks ["n"]`)
	compacted(t, b)
	b.Disk().Cut(0)
	refuses(t, b, api.ErrDead, "mark n .")
	says(t, a, "mark n .")
	b.Disk().Crash(nil, -1)
	holds(t, recovered(t, a.Disk()), `5 records, 2 in [0 1 2] marks ["m" "n"]`, nats, "axiom n : nat .")
	holds(t, recovered(t, b.Disk()), "2 records, 0 in [0] marks []")
}

// Whoever has a document may write over it.
func TestP26_2DocumentsAreNew(t *testing.T) {
	s := says(t, started(t, 30), nats, "axiom a : nat .", "mark b .")
	*s.Talk().Past().Now() = *doc.New()
	clear(s.Talk().Past().States())
	clear(s.Talk().Past().Marks())
	holds(t, s, `3 records, 2 in [0 1 2] marks ["b"]`, nats, "axiom a : nat .")
	compacted(t, s)
	*s.Talk().Past().Now() = *doc.New()
	holds(t, s, "3 records, 2 in [2] marks []", nats, "axiom a : nat .")
}

// An answer stays as it is, whatever is said later.
func TestP26_2AnswersStay(t *testing.T) {
	s := says(t, started(t, 60), nats, "axiom n : nat .", "mark m .", "mark o .")
	p := s.Talk().Past()
	r, now, states, marks := s.Say("print n ."), p.Now(), p.States(), p.Marks()
	says(t, s, "undo 2 .", "axiom n : Type0 .", "mark a .", "mark m .", "axiom k : Type0 .")
	refuses(t, leaves(t, s, 10), api.ErrFull, "undo 1 .", "mark m .", "axiom j : Type0 .")
	compacted(t, s)
	if got := fmt.Sprint(r, states, marks); got != "{0 2 axiom n : nat .} [0 1 2] [m o]" {
		t.Errorf("an answer is changed: %s", got)
	}
	if !doc.Same(now, says(t, started(t, 60), nats, "axiom n : nat .").Talk().Past().Now()) {
		t.Error("a document is changed")
	}
}

// What hangs on nothing but what was said may be said by several at once, each to a session of its own.
func TestP26_2AtOnce(t *testing.T) {
	alone, lines := spoken(t, 7, 60, 70)
	want := image(t, alone.Disk())
	var wait sync.WaitGroup
	for range 8 {
		wait.Go(func() {
			s, err := session.New(disk.New(60), enough)
			if err != nil {
				t.Error(err)
				return
			}
			for _, line := range lines {
				s.Say(line)
			}
			if tell(s) != tell(alone) || image(t, s.Disk()) != want {
				t.Errorf("%s; alone %s", tell(s), tell(alone))
			}
		})
	}
	wait.Wait()
}

// held is how many bytes are held.
func held() uint64 {
	var m runtime.MemStats
	runtime.GC()
	runtime.GC()
	runtime.ReadMemStats(&m)
	return m.HeapAlloc
}

// large is a line with a large term, a different one each time, which there may be or not.
func large(i int, of string) string {
	return fmt.Sprintf("axiom a%d : %s%s .", i, strings.Repeat("nat -> ", 270), of)
}

// What is refused, or has gone, isn't held, nor is what was compacted away.
func TestP26_2NothingIsHeld(t *testing.T) {
	full := leaves(t, says(t, started(t, 200), nats, "mark m ."), 500)
	s := says(t, started(t, 400), nats, "commit .")
	was := held()
	for i := range 300 {
		refuses(t, full, api.ErrFull, large(i, "nat"))
		refuses(t, full, api.ErrName, large(i, "zz"))
		says(t, s, large(i, "nat"), "mark m .", "undo 1 .")
		if i%3 == 0 {
			compacted(t, s)
		}
	}
	compacted(t, s)
	if now := held(); now > was+1<<20 {
		t.Errorf("%d bytes more", now-was)
	}
	runtime.KeepAlive(s)
	runtime.KeepAlive(full)
}

// What is there is held but once, however it came there, and the states of the row alone.
func TestP26_2StatesAreHeldOnce(t *testing.T) {
	const n = 30
	lines := []string{nats}
	for i := range n {
		lines = append(lines, large(i, "nat"))
	}
	was := held()
	s := says(t, started(t, 2000), slices.Insert(lines, n+1, "commit .")...)
	full := held()
	says(t, s, fmt.Sprintf("undo %d .", n), "commit .")
	if now := held(); full < was+1<<20 || now-was > (full-was)/2 {
		t.Errorf("%d bytes, with the states %d, without %d", was, full, now)
	}
	runtime.KeepAlive(s)
}
