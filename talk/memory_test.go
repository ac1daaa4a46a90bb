package talk_test

import (
	"fmt"
	"runtime"
	"strings"
	"sync"
	"testing"

	"vademecum/api"
	"vademecum/doc"
	"vademecum/talk"
)

// Talks have nothing to do with one another.
func TestP24_2Apart(t *testing.T) {
	a, b := said(t, talk.New(enough), nats), said(t, talk.New(1), "space a .")
	said(t, a, "mark m .", "axiom n : nat .")
	refuses(t, b, api.ErrState, "restore m .")
	refuses(t, b, api.ErrName, "print n .")
	refuses(t, b, api.ErrFuel, "check Type0 -> Type0 .")
	said(t, b, "mark n .", "undo 1 .")
	holds(t, a, "another one", `2 in [0 1 2] marks ["m"]`, made(t, nats, "axiom n : nat ."))
	holds(t, b, "another one", `0 in [0] marks ["n"]`, doc.New())
}

// A copy is a talk of its own.
func TestP24_2CopiesAreApart(t *testing.T) {
	x := said(t, talk.New(enough), nats, "mark m .", "axiom n : nat .", "mark n .", "space a .", "undo 1 .")
	for _, line := range []string{"axiom k : nat .", "undo 1 .", "back 0 .", "restore m .", "mark m .", "mark a .", "mark z ."} {
		y := *x
		said(t, &y, line, "space b .", "mark b .", "mark n .")
		holds(t, x, line, `2 in [0 1 2] marks ["m" "n"]`, made(t, nats, "axiom n : nat ."))
		z := *x
		answers(t, &z, "section c .", 4, "")
		answers(t, &z, "restore n .", 2, "")
		answers(t, &z, "restore m .", 1, "")
		refuses(t, &z, api.ErrState, "restore b .", "restore n .")
	}
	y := *x
	y.Past().Rebase(30)
	answers(t, x, "space b .", 4, "")
	holds(t, &y, "rebased", "30 in [30] marks []", made(t, nats, "axiom n : nat ."))
}

// Whoever has an answer may write over it.
func TestP24_2AnswersAreNew(t *testing.T) {
	x := said(t, talk.New(enough), nats, "space a .", "mark b .", "mark c .")
	d := made(t, nats, "space a .")
	*x.Past().Now() = *doc.New()
	clear(x.Past().States())
	clear(x.Past().Marks())
	holds(t, x, "written over", `2 in [0 1 2] marks ["b" "c"]`, d)
}

// An answer stays as it is, whatever is said later.
func TestP24_2AnswersStay(t *testing.T) {
	x := said(t, talk.New(enough), nats, "axiom n : nat .", "mark m .")
	r, now, states, marks := x.Say("print n ."), x.Past().Now(), x.Past().States(), x.Past().Marks()
	said(t, x, "undo 2 .", "axiom n : Type0 .", "mark a .", "mark m .", "axiom k : Type0 .")
	if got := fmt.Sprint(r, states, marks); got != "{0 2 axiom n : nat .} [0 1 2] [m]" || !doc.Same(now, made(t, nats, "axiom n : nat .")) {
		t.Errorf("an answer is changed: %s", got)
	}
}

// What hangs on nothing but what was said may be said by several at once, each to a talk of its own.
func TestP24_2AtOnce(t *testing.T) {
	lines, replies, _ := spoken(t, 1, 80)
	var wait sync.WaitGroup
	for range 8 {
		wait.Go(func() {
			x := talk.New(2000)
			for i, line := range lines {
				if got := x.Say(line); got != replies[i] {
					t.Errorf("%q: %v; alone %v", line, got, replies[i])
				}
			}
		})
	}
	wait.Wait()
}

// Likewise a talk may be asked for what it tells.
func TestP24_2ToldAtOnce(t *testing.T) {
	x := said(t, talk.New(enough), nats, "axiom n : nat .", "mark m .")
	want, d := tell(x), x.Past().Now()
	var wait sync.WaitGroup
	for range 8 {
		wait.Go(func() {
			for range 20 {
				if tell(x) != want || !doc.Same(x.Past().Now(), d) {
					t.Error("not what it is alone")
				}
			}
		})
	}
	wait.Wait()
}

// held is how many bytes are held.
func held() uint64 {
	var m runtime.MemStats
	runtime.GC()
	runtime.GC()
	runtime.ReadMemStats(&m)
	return m.HeapAlloc
}

// What is refused, or only asked, leaves nothing that is held; what goes is let go.
func TestP24_2NothingIsHeld(t *testing.T) {
	x := said(t, talk.New(enough), nats, "mark m .")
	// large is a line with a large term, a different one each time.
	large := func(i int, ahead string) string {
		return fmt.Sprintf("%s %s k%d .", ahead, strings.Repeat("nat -> ", 270), i)
	}
	was := held()
	for i := range 300 {
		refuses(t, x, api.ErrName, large(i, "axiom a :"), large(i, "check"))
		answers(t, x, strings.Replace(large(i, "check"), fmt.Sprint("k", i), "nat", 1), 1, "Type0")
		if i%3 == 0 {
			x.Say("mark m .")
			x.Say(strings.Replace(large(i, "axiom a :"), fmt.Sprint("k", i), "nat", 1))
			if r := x.Say("restore m ."); r.Err != 0 || r.State != 1 {
				t.Fatal(r)
			}
		}
	}
	if now := held(); now > was+1<<20 {
		t.Errorf("%d bytes more", now-was)
	}
	runtime.KeepAlive(x)
}
