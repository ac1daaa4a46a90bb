package keep_test

import (
	"fmt"
	"math/rand"
	"slices"
	"testing"

	"vademecum/api"
	"vademecum/doc"
	"vademecum/env"
	"vademecum/keep"
	"vademecum/sent"
	"vademecum/talk"
)

// same fails the test where two talks aren't the same, in all their states.
func same(t *testing.T, what string, a, b *talk.Talk) {
	t.Helper()
	for {
		if tell(a) != tell(b) || !doc.Same(a.Past().Now(), b.Past().Now()) {
			t.Errorf("%s: %s and %s", what, tell(a), tell(b))
			return
		}
		if len(a.Past().States()) == 1 {
			return
		}
		if a.Past().Undo(1) != nil || b.Past().Undo(1) != nil {
			t.Errorf("%s: can't be undone", what)
			return
		}
	}
}

// throughBytes is a log as it comes out of its bytes.
func throughBytes(t *testing.T, l []api.Record) []api.Record {
	t.Helper()
	var out []api.Record
	for _, r := range l {
		x, err := keep.Read(keep.Bytes(r))
		if err != nil || x != r {
			t.Fatalf("%v: %v, %v", r, x, err)
		}
		out = append(out, x)
	}
	return out
}

// compacted is the log of a document, as the state n.
func compacted(t *testing.T, d *doc.Doc, n int) []api.Record {
	t.Helper()
	lines, ok := keep.Base(d)
	if !ok {
		t.Fatal("something is open")
	}
	var l []api.Record
	for _, line := range lines {
		l = append(l, base(n, line))
	}
	if len(l) == 0 {
		l = append(l, base(n, ""))
	}
	return append(l, commit)
}

// What makes a document, said to a new talk, makes the same, and is told of that likewise.
func TestP25_3BaseSaidAgain(t *testing.T) {
	kinds := map[int]int{}
	changed := 0
	for seed := range int64(250) {
		d := ended(t, seed, 70)
		l, ok := keep.Base(d)
		if !ok {
			t.Fatalf("seed %d: something is open", seed)
		}
		x := talk.New(api.MaxFuel)
		for _, line := range l {
			s, err := sent.Parse(line)
			if r := x.Say(line); err != nil || r.Err != 0 || sent.Print(s) != line {
				t.Fatalf("seed %d: %q: %v, %v", seed, line, r, err)
			}
			kinds[s.Kind]++
		}
		now := x.Past().Now()
		if !doc.Same(now, d) || !slices.EqualFunc(now.Env().List(), d.Env().List(), env.Same) {
			t.Fatalf("seed %d: %q makes another document", seed, l)
		}
		again, ok := keep.Base(now)
		if !ok || !slices.Equal(again, l) {
			t.Fatalf("seed %d: %q, then %q", seed, l, again)
		}
		for _, d := range d.Env().List() {
			if d.Kind == api.DDef && d.Value.Kind == api.TLam && d.Value.A.Kind == api.TSort {
				changed++ // it took a section's variable, as no line here says such a thing
			}
		}
	}
	if len(kinds) != 3 || kinds[api.SAxiom] < 500 || kinds[api.SDef] < 500 || kinds[api.SFamily] < 500 || changed < 30 {
		t.Errorf("sentences by Kind: %v, %d of sections", kinds, changed)
	}
}

// The same as records, through bytes: one state, with what there was in it, and its number.
func TestP25_3BaseReplayed(t *testing.T) {
	for seed := range int64(120) {
		d := ended(t, seed, 60)
		n := int(seed) * 7 % 350
		l := throughBytes(t, compacted(t, d, n))
		x := replays(t, api.MaxFuel, l, len(l), fmt.Sprintf("%d in [%d] marks []", n, n), d)
		answers(t, x, "space a .", api.Reply{State: n + 1})
	}
	l := throughBytes(t, compacted(t, doc.New(), 4))
	replays(t, enough, l, 2, "4 in [4] marks []", doc.New())
}

// What was accepted and Keeps, put into a log as bytes, makes the same talk: all its states and marks, and what comes of what is said next.
func TestP25_3LogSaidAgain(t *testing.T) {
	kept := 0
	for seed := range int64(150) {
		k := &maker{r: rand.New(rand.NewSource(seed)), m: newModel(enough)}
		x := talk.New(enough)
		var l []api.Record
		for range 60 {
			line := k.line()
			k.m.say(line)
			s, err := sent.Parse(line)
			if err != nil {
				t.Fatal(line, err)
			}
			if r := x.Say(line); r.Err == 0 && talk.Keeps(s) {
				l = append(l, said(line)...)
				kept++
			}
			if s.Kind == api.SCommit {
				l = append(l, commit)
			}
		}
		y, n := keep.Replay(enough, throughBytes(t, l))
		if n != len(l) {
			t.Fatalf("seed %d: %d of %d are done", seed, n, len(l))
		}
		for range 8 {
			line := k.line()
			k.m.say(line)
			if a, b := x.Say(line), y.Say(line); a != b {
				t.Fatalf("seed %d, %q: %v, then %v", seed, line, a, b)
			}
		}
		same(t, fmt.Sprint("seed ", seed), x, y)
	}
	if kept < 3000 {
		t.Errorf("%d records", kept)
	}
}

// A beginning of a log makes what the talk was when so much was said: so much is done, and no more.
func TestP25_3Beginnings(t *testing.T) {
	for seed := range int64(40) {
		k := &maker{r: rand.New(rand.NewSource(seed))}
		l := k.randomLog(enough)
		m := newModel(enough)
		for i := range l {
			replays(t, enough, l[:i], i, m.tell(), m.now())
			// Of a log that can be done, what is a base has bases ahead of it alone.
			if m.replay(l[i:i+1]) != 1 {
				t.Fatalf("seed %d: record %d can't be done", seed, i)
			}
		}
		replays(t, enough, l, len(l), m.tell(), m.now())
	}
}

// What was compacted goes on like what was not, but for what is gone: the states ahead, and the marks.
func TestP25_3Compacted(t *testing.T) {
	on := 0
	for seed := range int64(60) {
		d := ended(t, seed, 40)
		l := compacted(t, d, 9)
		x, n := keep.Replay(enough, l)
		if n != len(l) {
			continue // a section's end may make what takes more fuel
		}
		on++
		y := talk.New(enough)
		if err := y.Past().Push(d); err != nil {
			t.Fatal(err)
		}
		y.Past().Rebase(9)
		k := &maker{r: rand.New(rand.NewSource(seed)), m: newModel(enough)}
		for range 30 {
			line := k.line()
			k.m.say(line)
			if a, b := x.Say(line), y.Say(line); a != b {
				t.Fatalf("seed %d, %q: %v, then %v", seed, line, a, b)
			}
		}
		same(t, fmt.Sprint("seed ", seed), x, y)
	}
	if on < 55 {
		t.Errorf("%d went on", on)
	}
}
