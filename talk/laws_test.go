package talk_test

import (
	"fmt"
	"math/rand"
	"testing"

	"vademecum/api"
	"vademecum/doc"
	"vademecum/sent"
	"vademecum/talk"
)

// spoken is a row of random lines, and the talk to which they were said.
func spoken(t *testing.T, seed int64, n int) ([]string, []api.Reply, *talk.Talk) {
	t.Helper()
	k := &maker{r: rand.New(rand.NewSource(seed)), m: newModel(2000)}
	x := talk.New(2000)
	var lines []string
	var replies []api.Reply
	for range n {
		line := k.line()
		if k.oneIn(15) {
			line = k.spoilt(line)
		}
		k.m.say(line)
		lines = append(lines, line)
		replies = append(replies, x.Say(line))
	}
	return lines, replies, x
}

// same fails the test where two talks aren't the same, in all their states.
func same(t *testing.T, what string, a, b *talk.Talk) {
	t.Helper()
	if tell(a) != tell(b) {
		t.Errorf("%s: %s and %s", what, tell(a), tell(b))
		return
	}
	for len(a.Past().States()) > 1 {
		if !doc.Same(a.Past().Now(), b.Past().Now()) {
			t.Errorf("%s: not the same in state %d", what, a.Past().State())
			return
		}
		said(t, a, "undo 1 .")
		said(t, b, "undo 1 .")
	}
}

// What is said again makes the same, and is answered likewise.
func TestP24_2SaidAgain(t *testing.T) {
	for seed := range int64(60) {
		lines, replies, x := spoken(t, seed, 60)
		y := talk.New(2000)
		for i, line := range lines {
			if got := y.Say(line); got != replies[i] {
				t.Fatalf("seed %d, %q: %v, then %v", seed, line, replies[i], got)
			}
		}
		same(t, fmt.Sprint("seed ", seed), x, y)
	}
}

// What was accepted and Keeps makes all of it, without the rest.
func TestP24_2WhatKeepsMakesAll(t *testing.T) {
	left := 0
	for seed := range int64(60) {
		lines, replies, x := spoken(t, seed, 60)
		y := talk.New(2000)
		for i, line := range lines {
			s, err := sent.Parse(line)
			if err != nil || replies[i].Err != 0 || !talk.Keeps(s) {
				left++
				continue
			}
			if got := y.Say(line); got != replies[i] {
				t.Fatalf("seed %d, %q: %v, then %v", seed, line, replies[i], got)
			}
		}
		same(t, fmt.Sprint("seed ", seed), x, y)
	}
	if left < 500 {
		t.Errorf("only %d lines were left out", left)
	}
}

// A sentence that was printed does what it did as it was said.
func TestP24_2SaidAsPrinted(t *testing.T) {
	for seed := range int64(60) {
		lines, replies, x := spoken(t, seed, 60)
		y := talk.New(2000)
		for i, line := range lines {
			if s, err := sent.Parse(line); err == nil {
				line = sent.Print(s)
			}
			if got := y.Say(line); got != replies[i] {
				t.Fatalf("seed %d, %q: %v, then %v", seed, line, replies[i], got)
			}
		}
		same(t, fmt.Sprint("seed ", seed), x, y)
	}
}

// Only a sentence that is accepted and Keeps changes what is there; but of back to where it is, mark and restore it changes the state.
func TestP24_2WhatKeepsChanges(t *testing.T) {
	for seed := range int64(60) {
		k := &maker{r: rand.New(rand.NewSource(seed)), m: newModel(2000)}
		x := talk.New(2000)
		for range 60 {
			line := k.line()
			k.m.say(line)
			s, err := sent.Parse(line)
			if err != nil {
				t.Fatal(line, err)
			}
			was, d := tell(x), x.Past().Now()
			r := x.Say(line)
			stays := tell(x) == was && doc.Same(x.Past().Now(), d)
			switch {
			case r.Err != 0 || !talk.Keeps(s):
				if !stays {
					t.Errorf("seed %d, %q: %v changed something", seed, line, r)
				}
			case s.Kind != api.SBack && s.Kind != api.SMark && s.Kind != api.SRestore:
				if stays {
					t.Errorf("seed %d, %q: %v changed nothing", seed, line, r)
				}
			}
			if r.Text != "" && (r.Err != 0 || s.Kind != api.SCheck && s.Kind != api.SPrint) {
				t.Errorf("seed %d, %q: a text: %v", seed, line, r)
			}
		}
	}
}

// What is undone and said again comes to the same document, in another state.
func TestP24_2UndoneAndSaidAgain(t *testing.T) {
	lines := []string{nats, "axiom n : nat .", "space a .", "section b .", "var A : Type0 .", "def id : A -> A := fun x : A => x .", "family f 0 : Type0 { c : nat -> f } .", "end b .", "end a ."}
	x := said(t, talk.New(enough), lines...)
	for n := 1; n <= len(lines); n++ {
		last := x.Past().State()
		answers(t, x, fmt.Sprintf("undo %d .", n), x.Past().States()[len(lines)-n], "")
		said(t, x, lines[len(lines)-n:]...)
		if got := x.Past().State(); got != last+n {
			t.Errorf("undone %d: state %d", n, got)
		}
		if !doc.Same(x.Past().Now(), made(t, lines...)) {
			t.Errorf("undone %d: another document", n)
		}
	}
}
