package keep_test

import (
	"fmt"
	"math/rand"
	"runtime"
	"slices"
	"strings"
	"sync"
	"testing"

	"vademecum/api"
	"vademecum/doc"
	"vademecum/keep"
	"vademecum/talk"
)

// What is handed in stays, its spare room too.
func TestP25_3HandedInStays(t *testing.T) {
	l := make([]api.Record, 0, 12)
	l = append(l, base(3, nats), base(3, "axiom a : nat ."), commit)
	l = append(l, said("undo 1 .", "space q .", "axiom b : zz .")...)
	spare := l[:cap(l)]
	for i := len(l); i < cap(l); i++ {
		spare[i] = api.Record{Kind: i, N: i, Text: "spare"}
	}
	was := slices.Clone(spare)
	keep.Replay(enough, l)
	keep.Replay(enough, l[3:])
	if !slices.Equal(spare, was) {
		t.Errorf("records are changed: %v", spare)
	}
	d := made(t, nats, "space q .", "axiom a : nat .", "end q .")
	keep.Base(d)
	if !doc.Same(d, made(t, nats, "space q .", "axiom a : nat .", "end q .")) {
		t.Error("a document is changed")
	}
	open := made(t, nats, "section q .", "var a : nat .")
	keep.Base(open)
	if !doc.Same(open, made(t, nats, "section q .", "var a : nat .")) {
		t.Error("a document is changed")
	}
}

// What was handed in may be written over.
func TestP25_3NothingIsKept(t *testing.T) {
	l := []api.Record{base(3, nats), commit, said("axiom a : nat .")[0]}
	x, _ := keep.Replay(enough, l)
	for i := range l {
		l[i] = api.Record{Kind: api.RSentence, N: 9, Text: "space q ."}
	}
	if tell(x) != "4 in [3 4] marks []" || !doc.Same(x.Past().Now(), made(t, nats, "axiom a : nat .")) {
		t.Errorf("%s", tell(x))
	}
	answers(t, x, "undo 1 .", api.Reply{State: 3})
	d := made(t, nats)
	lines, _ := keep.Base(d)
	*d = *doc.New()
	if !slices.Equal(lines, []string{toldNats}) {
		t.Errorf("%q", lines)
	}
	holds(t, d)
}

// Whoever has an answer may write over it, and over the room behind it.
func TestP25_3AnswersAreNew(t *testing.T) {
	d := made(t, nats, "axiom a : nat .", "axiom b : nat .")
	one, _ := keep.Base(d)
	two, _ := keep.Base(d)
	for i := range one[:cap(one)] {
		one[:cap(one)][i] = "spoilt"
	}
	want := []string{toldNats, "axiom a : nat .", "axiom b : nat ."}
	if !slices.Equal(two, want) {
		t.Errorf("two answers share memory: %q", two)
	}
	holds(t, d, want...)
	l := said(nats, "mark m .")
	x, _ := keep.Replay(enough, l)
	*x = *talk.New(3)
	replays(t, enough, l, 2, `1 in [0 1] marks ["m"]`, made(t, nats))
	y, _ := keep.Replay(enough, l)
	*y.Past().Now() = *doc.New()
	y.Past().Rebase(30)
	replays(t, enough, l, 2, `1 in [0 1] marks ["m"]`, made(t, nats))
}

// Talks that come of the same log have nothing to do with one another.
func TestP25_3Apart(t *testing.T) {
	l := log([]api.Record{base(5, nats)}, said("axiom a : nat ."))
	x, _ := keep.Replay(enough, l)
	y, _ := keep.Replay(enough, l)
	answers(t, x, "undo 1 .", api.Reply{State: 5})
	answers(t, x, "mark m .", api.Reply{State: 5})
	answers(t, x, "axiom a : Type0 .", api.Reply{State: 7})
	answers(t, y, "print a .", api.Reply{State: 6, Text: "axiom a : nat ."})
	answers(t, y, "restore m .", api.Reply{Err: int(api.ErrState), State: 6})
	answers(t, y, "axiom b : a .", api.Reply{Err: int(api.ErrSort), State: 6})
}

// The same makes the same, also at once.
func TestP25_3AtOnce(t *testing.T) {
	k := &maker{r: rand.New(rand.NewSource(4))}
	l := k.randomLog(enough)
	x, n := keep.Replay(enough, l)
	d := ended(t, 4, 60)
	lines, _ := keep.Base(d)
	b := keep.Bytes(base(300, toldNats))
	var wait sync.WaitGroup
	for range 8 {
		wait.Go(func() {
			for range 5 {
				if y, m := keep.Replay(enough, l); m != n || tell(y) != tell(x) || !doc.Same(y.Past().Now(), x.Past().Now()) {
					t.Error("replayed otherwise")
				}
				if again, ok := keep.Base(d); !ok || !slices.Equal(again, lines) {
					t.Error("another base")
				}
				if r, err := keep.Read(b); err != nil || r != base(300, toldNats) || keep.Bytes(r) != b {
					t.Error("other bytes")
				}
			}
		})
	}
	wait.Wait()
}

// held is how many bytes are held.
func held() uint64 {
	var m runtime.MemStats
	runtime.GC()
	runtime.GC()
	runtime.ReadMemStats(&m)
	return m.HeapAlloc
}

// What a log's states ahead of a base were isn't held, and nothing is that was only asked, nor between calls.
func TestP25_3NothingIsHeld(t *testing.T) {
	large := func(i int) string {
		return fmt.Sprintf("axiom a%d : %snat .", i, strings.Repeat("nat -> ", 270))
	}
	var bases, asks []api.Record
	bases = append(bases, base(0, nats))
	asks = append(asks, said(nats)...)
	for i := range 150 {
		bases = append(bases, base(i, "space a ."), base(i, "end a ."))
		asks = append(asks, said("check "+strings.Repeat("nat -> ", 270)+"nat .", "mark m .", large(i), "restore m .")...)
	}
	was := held()
	x, n := keep.Replay(enough, bases)
	y, m := keep.Replay(enough, asks)
	if n != len(bases) || m != len(asks) {
		t.Errorf("%d of %d, %d of %d", n, len(bases), m, len(asks))
	}
	for range 40 {
		keep.Replay(enough, bases)
		keep.Base(y.Past().Now())
	}
	if now := held(); now > was+1<<20 {
		t.Errorf("%d bytes more", now-was)
	}
	runtime.KeepAlive(x)
	runtime.KeepAlive(y)
	runtime.KeepAlive(bases)
	runtime.KeepAlive(asks)
}
