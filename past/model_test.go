package past_test

import (
	"errors"
	"fmt"
	"math/rand"
	"slices"
	"sort"
	"testing"

	"vademecum/api"
	"vademecum/doc"
	"vademecum/past"
)

// model is a past as the chapter tells it, with all that ever was. Of a document it knows its number among the test's ones, 0 of a new one.
type model struct {
	had   []had
	gone  map[int]bool // places in had
	next  int
	marks map[string]int // places in had
}

// had is a state that was had: its number, its document.
type had struct{ number, doc int }

func newModel() *model {
	return &model{had: []had{{0, 0}}, gone: map[int]bool{}, next: 1, marks: map[string]int{}}
}

// row are the places of the states in the row.
func (m *model) row() []int {
	var l []int
	for i := range m.had {
		if !m.gone[i] {
			l = append(l, i)
		}
	}
	return l
}

// now is the place of the present state.
func (m *model) now() int {
	l := m.row()
	return l[len(l)-1]
}

// place is the place of a state in the row, -1 of one that isn't in it.
func (m *model) place(number int) int {
	for _, i := range m.row() {
		if m.had[i].number == number {
			return i
		}
	}
	return -1
}

func (m *model) push(doc int) error {
	if len(m.row()) == api.MaxStates {
		return api.ErrFull
	}
	m.had = append(m.had, had{m.next, doc})
	m.next++
	return nil
}

func (m *model) undo(n int) error {
	l := m.row()
	if n < 1 || len(l) <= n {
		return api.ErrState
	}
	for _, i := range l[len(l)-n:] {
		m.gone[i] = true
	}
	return nil
}

func (m *model) back(state int) error {
	i := m.place(state)
	if i < 0 {
		return api.ErrState
	}
	for i++; i < len(m.had); i++ {
		m.gone[i] = true
	}
	return nil
}

func (m *model) mark(name string) error {
	if _, ok := m.marks[name]; !ok && len(m.marks) == 20 {
		return api.ErrFull
	}
	m.marks[name] = m.now()
	return nil
}

func (m *model) restore(name string) error {
	i, ok := m.marks[name]
	if !ok || m.gone[i] {
		return api.ErrState
	}
	for i++; i < len(m.had); i++ {
		m.gone[i] = true
	}
	return nil
}

func (m *model) rebase(state int) {
	doc := m.had[m.now()].doc
	*m = *newModel()
	m.had[0] = had{state, doc}
	m.next = state + 1
}

// tell is all that a past tells but its documents, as a text.
func (m *model) tell() string {
	var states []int
	for _, i := range m.row() {
		states = append(states, m.had[i].number)
	}
	var marks []string
	for name := range m.marks {
		marks = append(marks, name)
	}
	sort.Strings(marks)
	return fmt.Sprintf("%d in %v marks %q", m.had[m.now()].number, states, marks)
}

// A random call is made to both.
func both(r *rand.Rand, p *past.Past, m *model, docs []*doc.Doc, pushes int) (string, error, error) {
	near := m.had[m.now()].number - r.Intn(8) + 1
	name := []string{"", "a", "b", "c", "ab"}[r.Intn(5)]
	if r.Intn(3) == 0 {
		name = fmt.Sprint("m", r.Intn(25))
	}
	switch k := r.Intn(14 + pushes); k {
	case 0, 1:
		n := r.Intn(7) - 1
		return fmt.Sprint("undo ", n), p.Undo(n), m.undo(n)
	case 2, 3:
		return fmt.Sprint("back ", near), p.Back(near), m.back(near)
	case 4:
		l := p.States()
		state := l[r.Intn(len(l))]
		return fmt.Sprint("back ", state), p.Back(state), m.back(state)
	case 5, 6, 7, 8:
		return "mark " + name, p.Mark(name), m.mark(name)
	case 9, 10, 11:
		return "restore " + name, p.Restore(name), m.restore(name)
	case 12:
		if r.Intn(6) > 0 {
			return "nothing", nil, nil
		}
		state := near + r.Intn(40) - 20
		p.Rebase(state)
		m.rebase(state)
		return fmt.Sprint("rebase ", state), nil, nil
	default:
		i := r.Intn(len(docs))
		return fmt.Sprint("push ", i), p.Push(docs[i]), m.push(i)
	}
}

// Random calls do what the chapter says, word by word.
func TestP23_1Model(t *testing.T) {
	docs := append([]*doc.Doc{doc.New()}, several(t, 5)...)
	for seed := range int64(300) {
		r := rand.New(rand.NewSource(seed))
		p, m := past.New(), newModel()
		var said []string
		for range 120 {
			call, got, want := both(r, p, m, docs, int(seed%20))
			said = append(said, call)
			if (got == nil) != (want == nil) || !errors.Is(got, want) {
				t.Fatalf("seed %d, %q: %v; want %v", seed, said, got, want)
			}
			if tell(p) != m.tell() || !doc.Same(p.Now(), docs[m.had[m.now()].doc]) {
				t.Fatalf("seed %d, %q: %s; want %s", seed, said, tell(p), m.tell())
			}
		}
	}
}

// Likewise where there is no room.
func TestP23_1ModelFull(t *testing.T) {
	docs := append([]*doc.Doc{doc.New()}, several(t, 3)...)
	full := 0
	for seed := range int64(6) {
		r := rand.New(rand.NewSource(seed))
		p, m := past.New(), newModel()
		for i := range 290 {
			if errors.Is(p.Push(docs[i%4]), api.ErrFull) || m.push(i%4) != nil {
				t.Fatal("no room")
			}
		}
		for range 400 {
			call, got, want := both(r, p, m, docs, 120)
			if (got == nil) != (want == nil) || !errors.Is(got, want) {
				t.Fatalf("seed %d, %s: %v; want %v", seed, call, got, want)
			}
			if errors.Is(got, api.ErrFull) {
				full++
			}
			if tell(p) != m.tell() || !doc.Same(p.Now(), docs[m.had[m.now()].doc]) {
				t.Fatalf("seed %d, %s: %.300s; want %.300s", seed, call, tell(p), m.tell())
			}
		}
	}
	if full < 20 {
		t.Errorf("no room but %d times", full)
	}
}

// What was undone leaves no trace but the numbers: the same pasts go on in the same way.
func TestP23_2TheSameMakesTheSame(t *testing.T) {
	docs := several(t, 4)
	for seed := range int64(100) {
		var told []string
		for range 2 {
			r := rand.New(rand.NewSource(seed))
			p, m := past.New(), newModel()
			text := ""
			for range 60 {
				call, got, _ := both(r, p, m, docs, 8)
				text += fmt.Sprint(call, " ", got, " ", tell(p), "\n")
			}
			told = append(told, text)
		}
		if !slices.Equal(told[:1], told[1:]) {
			t.Fatalf("seed %d: not the same", seed)
		}
	}
}

// To undo n is to go back to the state that is n ahead of the present one, to restore a mark is to go back to its state.
func TestP23_2Laws(t *testing.T) {
	docs := several(t, 3)
	grown := func(seed int64) *past.Past {
		r := rand.New(rand.NewSource(seed))
		p, m := past.New(), newModel()
		for range 40 {
			both(r, p, m, docs, 20)
		}
		return p
	}
	for seed := range int64(60) {
		row := grown(seed).States()
		for i, state := range row {
			undone, back, untouched := grown(seed), grown(seed), grown(seed)
			if n := len(row) - 1 - i; n > 0 {
				accepted(t, undone.Undo(n))
			}
			accepted(t, back.Back(state))
			if tell(undone) != tell(back) || !doc.Same(undone.Now(), back.Now()) {
				t.Errorf("seed %d: undone %s, back %s", seed, tell(undone), tell(back))
			}
			if back.State() != state || !slices.Equal(back.States(), row[:i+1]) || !slices.Equal(back.Marks(), untouched.Marks()) {
				t.Errorf("seed %d: back to %d: %s", seed, state, tell(back))
			}
		}
		marked := grown(seed)
		if marked.Mark("a") != nil {
			continue
		}
		was, now := tell(marked), marked.Now()
		for _, d := range docs {
			accepted(t, marked.Push(d))
		}
		accepted(t, marked.Restore("a"))
		if tell(marked) != was || !doc.Same(marked.Now(), now) {
			t.Errorf("seed %d: restored %s; was %s", seed, tell(marked), was)
		}
	}
}
