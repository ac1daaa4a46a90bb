package past_test

import (
	"runtime"
	"slices"
	"sync"
	"testing"

	"vademecum/api"
	"vademecum/doc"
	"vademecum/past"
)

// A document that was pushed may be written over: the state stays.
func TestP23_2NothingIsKept(t *testing.T) {
	l := several(t, 3)
	d := made(t, doc.New(), "space a .", "axiom x : Type0 .")
	p := pushed(t, l[0], d)
	*d = *l[1]
	if !doc.Same(p.Now(), made(t, doc.New(), "space a .", "axiom x : Type0 .")) {
		t.Error("a document that was pushed is kept")
	}
	accepted(t, p.Push(l[1]))
	*l[1] = *doc.New()
	accepted(t, p.Push(l[2]))
	accepted(t, p.Undo(1))
	if doc.Same(p.Now(), doc.New()) {
		t.Error("a document that was pushed is kept")
	}
}

// What is handed in stays.
func TestP23_2HandedInStays(t *testing.T) {
	l := several(t, 2)
	p := pushed(t, l...)
	accepted(t, p.Undo(1))
	accepted(t, p.Push(doc.New()))
	p.Rebase(7)
	for i, d := range several(t, 2) {
		if !doc.Same(l[i], d) {
			t.Errorf("document %d is changed", i)
		}
	}
}

// Whoever has an answer may write over it.
func TestP23_2AnswersAreNew(t *testing.T) {
	l := several(t, 3)
	p := pushed(t, l...)
	for _, name := range []string{"a", "b", "c"} {
		accepted(t, p.Mark(name))
	}
	for _, answer := range []*doc.Doc{p.Now(), p.Now()} {
		*answer = *doc.New()
		holds(t, p, "written over", `3 in [0 1 2 3] marks ["a" "b" "c"]`, l[2])
	}
	states, marks := p.States(), p.Marks()
	again, names := p.States(), p.Marks()
	for i := range states[:cap(states)] {
		states[:cap(states)][i] = 99
	}
	for i := range marks[:cap(marks)] {
		marks[:cap(marks)][i] = "spoilt"
	}
	holds(t, p, "written over", `3 in [0 1 2 3] marks ["a" "b" "c"]`, l[2])
	if !slices.Equal(again, []int{0, 1, 2, 3}) || !slices.Equal(names, []string{"a", "b", "c"}) {
		t.Error("two answers share memory")
	}
	// Of the first state too, and behind a Rebase.
	fresh := past.New()
	*fresh.Now() = *l[0]
	holds(t, fresh, "new", "0 in [0] marks []", doc.New())
	p.Rebase(5)
	*p.Now() = *l[0]
	holds(t, p, "rebased", "5 in [5] marks []", l[2])
}

// An answer stays as it is, whatever is done later.
func TestP23_2AnswersStay(t *testing.T) {
	l := several(t, 4)
	p := pushed(t, l[:3]...)
	accepted(t, p.Mark("a"))
	now, states, marks := p.Now(), p.States(), p.Marks()
	accepted(t, p.Undo(2))
	accepted(t, p.Push(l[3]))
	accepted(t, p.Mark("0"))
	accepted(t, p.Push(l[3]))
	p.Rebase(12)
	if !doc.Same(now, l[2]) || !slices.Equal(states, []int{0, 1, 2, 3}) || !slices.Equal(marks, []string{"a"}) {
		t.Error("an answer is changed")
	}
}

// Pasts have nothing to do with one another.
func TestP23_2Apart(t *testing.T) {
	l := several(t, 2)
	a, b := pushed(t, l...), pushed(t, l...)
	accepted(t, a.Mark("m"))
	accepted(t, a.Undo(2))
	accepted(t, a.Push(l[1]))
	holds(t, b, "another one", "2 in [0 1 2] marks []", l[1])
	b.Rebase(40)
	holds(t, a, "another one", `3 in [0 3] marks ["m"]`, l[1])
}

// A copy is a past of its own, whatever is done to it or to the one that it was copied from.
func TestP23_2CopiesAreApart(t *testing.T) {
	l := several(t, 4)
	const was = `5 in [0 1 4 5] marks ["a" "c" "gone"]`
	made := func() *past.Past {
		p := pushed(t, l[:2]...)
		accepted(t, p.Mark("c"))
		accepted(t, p.Push(l[2]))
		accepted(t, p.Mark("gone"))
		accepted(t, p.Undo(2))
		accepted(t, p.Mark("a"))
		accepted(t, p.Push(l[0]))
		accepted(t, p.Push(l[1]))
		return p
	}
	ways := map[string]func(p *past.Past){
		"push":      func(p *past.Past) { accepted(t, p.Push(l[3])) },
		"undo":      func(p *past.Past) { accepted(t, p.Undo(1)) },
		"undo all":  func(p *past.Past) { accepted(t, p.Undo(3)) },
		"back":      func(p *past.Past) { accepted(t, p.Back(1)) },
		"restore":   func(p *past.Past) { accepted(t, p.Restore("a")) },
		"mark":      func(p *past.Past) { accepted(t, p.Mark("b")) },
		"mark last": func(p *past.Past) { accepted(t, p.Mark("x")) },
		"mark anew": func(p *past.Past) { accepted(t, p.Mark("a")) },
		"rebase":    func(p *past.Past) { p.Rebase(9) },
	}
	for first, one := range ways {
		for second, other := range ways {
			a, alone := made(), made()
			holds(t, a, "made", was, l[1])
			b := *a
			one(a)
			holds(t, &b, first+" to the other one", was, l[1])
			other(&b)
			one(alone)
			// All that is told of it is as if there were no copy: its states, what marks stand for, which number is next.
			for range 2 {
				accepted(t, a.Push(l[2]))
				accepted(t, b.Push(l[3]))
				accepted(t, alone.Push(l[2]))
				holds(t, a, first+", the copy "+second, tell(alone), alone.Now())
				if got, want := a.Restore("a"), alone.Restore("a"); (got == nil) != (want == nil) {
					t.Errorf("%s, the copy %s: %v, %v", first, second, got, want)
				}
				holds(t, a, first+", the copy "+second, tell(alone), alone.Now())
			}
			accepted(t, a.Push(l[0]))
			accepted(t, b.Push(l[3]))
			accepted(t, alone.Push(l[0]))
			holds(t, a, first+", the copy "+second, tell(alone), alone.Now())
			for a.Undo(1) == nil {
				accepted(t, alone.Undo(1))
				holds(t, a, first+", the copy "+second, tell(alone), alone.Now())
			}
		}
	}
}

// A past may be asked by several at once.
func TestP23_2AtOnce(t *testing.T) {
	l := several(t, 20)
	p := pushed(t, l...)
	accepted(t, p.Mark("m"))
	want := tell(p)
	var wait sync.WaitGroup
	for range 8 {
		wait.Go(func() {
			for range 20 {
				if tell(p) != want || !doc.Same(p.Now(), l[19]) {
					t.Error("not what it is alone")
				}
			}
		})
	}
	wait.Wait()
}

// large is a document with an axiom of a large type, which no other document shares.
func large(t *testing.T) *doc.Doc {
	t.Helper()
	a := &api.Term{Kind: api.TSort}
	for range 1400 {
		a = &api.Term{Kind: api.TPi, A: &api.Term{Kind: api.TSort}, B: a}
	}
	d, _, err := doc.New().Do(api.Sentence{Kind: api.SAxiom, Name: "a", A: a}, api.MaxFuel)
	if err != nil {
		t.Fatal(err)
	}
	return d
}

// held is how many bytes are held.
func held() uint64 {
	var m runtime.MemStats
	runtime.GC()
	runtime.GC()
	runtime.ReadMemStats(&m)
	return m.HeapAlloc
}

// What has gone from the row isn't held.
func TestP23_2WhatHasGoneIsLetGo(t *testing.T) {
	const n = 60
	p := past.New()
	ways := []func(){
		func() { accepted(t, p.Undo(n)) },
		func() { accepted(t, p.Back(0)) },
		func() { accepted(t, p.Restore("first")) },
		func() { accepted(t, p.Push(doc.New())); p.Rebase(0) },
	}
	accepted(t, p.Mark("first"))
	none := held()
	for i, leave := range ways {
		for range n {
			accepted(t, p.Push(large(t)))
		}
		full := held()
		leave()
		if left := held(); full < none+4<<20 || left > none+(full-none)/4 {
			t.Errorf("%d: %d bytes, %d with the states, %d behind them", i, none, full, left)
		}
	}
	runtime.KeepAlive(p)
}
