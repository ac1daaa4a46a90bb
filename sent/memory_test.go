package sent_test

import (
	"slices"
	"strings"
	"sync"
	"testing"

	"vademecum/api"
	"vademecum/sent"
	"vademecum/term"
)

// known is all nodes of a sentence.
func known(x api.Sentence) map[*api.Term]bool {
	all := map[*api.Term]bool{}
	l := []*api.Term{x.A, x.B}
	for _, c := range x.Cons {
		l = append(l, c.Type)
	}
	for len(l) > 0 {
		t := l[len(l)-1]
		l = l[:len(l)-1]
		if t != nil && !all[t] {
			all[t] = true
			l = append(l, t.A, t.B, t.C)
		}
	}
	return all
}

// size is how many nodes a sentence has, each as often as it is there.
func size(x api.Sentence) int {
	n := term.Size(x.A) + term.Size(x.B)
	for _, c := range x.Cons {
		n += term.Size(c.Type)
	}
	return n
}

// spoil changes all that hangs on a sentence, the room behind its list too.
func spoil(x api.Sentence) {
	for node := range known(x) {
		*node = api.Term{Kind: 44, N: -9, Name: "spoilt", C: &api.Term{}}
	}
	l := x.Cons[:cap(x.Cons)]
	for i := range l {
		l[i] = api.Con{Name: "spoilt", Type: &api.Term{}}
	}
}

// What is told is new, no node of it twice: no answer is touched by what is done with another one.
func TestP21_1AnswersAreNew(t *testing.T) {
	seen := map[*api.Term]bool{}
	for _, row := range append(rows(), saidOtherwise()...) {
		var kept []api.Sentence
		for range 3 {
			x, err := sent.Parse(row.text)
			if err != nil {
				t.Fatalf("%q: %v", row.text, err)
			}
			nodes := known(x)
			if len(nodes) != size(x) {
				t.Errorf("%q: %d nodes of %d", row.text, len(nodes), size(x))
			}
			for node := range nodes {
				if seen[node] {
					t.Fatalf("%q: a node that was there", row.text)
				}
				seen[node] = true
			}
			kept = append(kept, x)
		}
		want := tell(row.x)
		spoil(kept[1])
		if again, err := sent.Parse(row.text); err != nil || tell(again) != want {
			t.Errorf("%q: otherwise the next time: %s, %v", row.text, tell(again), err)
		}
		if tell(kept[0]) != want || tell(kept[2]) != want {
			t.Errorf("%q: touched by what is done with another one", row.text)
		}
	}
}

// What is handed in is neither changed nor kept, the room behind a list included.
func TestP21_1HandedInStays(t *testing.T) {
	a := app(constant("a"), constant("b"))
	shared := pi(a, let(a, a, lam(a, a)))
	for kind := -1; kind <= 16; kind++ {
		for _, name := range []string{"a", "fun"} {
			room := []api.Con{con("c", shared), con("d", a), con(name, shared), con("spare", a), {}}
			x := api.Sentence{Kind: kind, Name: name, N: 4, A: shared, B: a, Cons: room[:3]}
			before := slices.Clone(room)
			nodes := map[*api.Term]api.Term{}
			for node := range known(x) {
				nodes[node] = *node
			}
			first := []string{sent.Print(x), sent.Print(api.Sentence{Kind: kind, Name: name, A: shared}), sent.Print(api.Sentence{Kind: api.SFamily, Name: "a", A: a, Cons: room[:3]})}
			sent.Same(x, x)
			sent.Same(x, api.Sentence{Kind: kind, Name: name, N: 4, A: a, B: a, Cons: room[:4]})
			for node, was := range nodes {
				if *node != was {
					t.Fatalf("Kind %d: a node is changed", kind)
				}
			}
			if !slices.Equal(room, before) {
				t.Fatalf("Kind %d: the list is changed", kind)
			}
			again := []string{sent.Print(x), sent.Print(api.Sentence{Kind: kind, Name: name, A: shared}), sent.Print(api.Sentence{Kind: api.SFamily, Name: "a", A: a, Cons: room[:3]})}
			if !slices.Equal(first, again) {
				t.Errorf("Kind %d: %q, then %q", kind, first, again)
			}
		}
	}
}

// A sentence that is changed is another one: nothing of what was told of it is kept.
func TestP21_1NothingIsKept(t *testing.T) {
	x := api.Sentence{Kind: api.SFamily, Name: "f", A: constant("a"), Cons: []api.Con{con("c", constant("a"))}}
	y := api.Sentence{Kind: api.SFamily, Name: "f", A: constant("a"), Cons: []api.Con{con("c", constant("a"))}}
	if !sent.Same(x, y) || sent.Print(x) != "family f 0 : a { c : a } ." {
		t.Errorf("%q", sent.Print(x))
	}
	x.Cons[0].Type.Name = "b"
	if sent.Same(x, y) || sent.Print(x) != "family f 0 : a { c : b } ." {
		t.Errorf("%q", sent.Print(x))
	}
	y.Cons[0].Type.Name = "b"
	x.A.Name, y.A.Name = "fun", "fun"
	if !sent.Same(x, y) || sent.Print(x) != "" {
		t.Errorf("%q", sent.Print(x))
	}
}

// Several may ask at once, also of the same sentence.
func TestP21_1AtOnce(t *testing.T) {
	all := rows()
	var wait sync.WaitGroup
	for range 8 {
		wait.Go(func() {
			for _, row := range all {
				x, err := sent.Parse(row.text)
				if err != nil || !sent.Same(x, row.x) || sent.Print(row.x) != row.text || sent.Print(x) != row.text {
					t.Errorf("%q: %s, %v", row.text, tell(x), err)
				}
				if _, err := sent.Parse(strings.TrimSuffix(row.text, ".")); errno(err) != api.ErrForm {
					t.Errorf("%q without its end: %v", row.text, err)
				}
			}
		})
	}
	wait.Wait()
}
