package talk_test

import (
	"errors"
	"fmt"
	"maps"
	"math/rand"
	"slices"
	"strings"
	"testing"

	"vademecum/api"
	"vademecum/doc"
	"vademecum/sent"
	"vademecum/talk"
)

// model is the chapter word by word, with the document of each state that ever was.
type model struct {
	fuel  int
	row   []int // numbers
	docs  map[int]*doc.Doc
	last  int
	marks map[string]int
}

func newModel(fuel int) *model {
	return &model{fuel: min(max(fuel, 0), 20000), row: []int{0}, docs: map[int]*doc.Doc{0: doc.New()}, marks: map[string]int{}}
}

func (m *model) state() int { return m.row[len(m.row)-1] }

func (m *model) back(state int) error {
	i := slices.Index(m.row, state)
	if i < 0 {
		return api.ErrState
	}
	m.row = m.row[:i+1]
	return nil
}

func (m *model) undo(n int) error {
	if n < 1 || n >= len(m.row) {
		return api.ErrState
	}
	m.row = m.row[:len(m.row)-n]
	return nil
}

func (m *model) mark(name string) error {
	if _, ok := m.marks[name]; !ok && len(m.marks) == 20 {
		return api.ErrFull
	}
	m.marks[name] = m.state()
	return nil
}

func (m *model) restore(name string) error {
	state, ok := m.marks[name]
	if !ok {
		return api.ErrState
	}
	return m.back(state)
}

// told is what the document tells of a sentence; what it makes is a new state, but of what is only asked.
func (m *model) told(x api.Sentence) (string, error) {
	d, text, err := m.docs[m.state()].Do(x, m.fuel)
	switch {
	case err != nil:
		return "", err
	case x.Kind == api.SCheck || x.Kind == api.SPrint:
		return text, nil
	case len(m.row) == 300:
		return "", api.ErrFull
	}
	m.last++
	m.row = append(slices.Clone(m.row), m.last)
	m.docs[m.last] = d
	return "", nil
}

// say is what a line comes to, and the Kind of its sentence, 0 if it is none.
func (m *model) say(line string) (r api.Reply, kind int) {
	x, err := sent.Parse(line)
	if err == nil {
		switch kind = x.Kind; kind {
		case api.SUndo:
			err = m.undo(x.N)
		case api.SBack:
			err = m.back(x.N)
		case api.SMark:
			err = m.mark(x.Name)
		case api.SRestore:
			err = m.restore(x.Name)
		case api.SCommit:
		default:
			r.Text, err = m.told(x)
		}
	}
	for n := range 30 {
		if n > 0 && errors.Is(err, api.Errno(n)) {
			r.Err = n
		}
	}
	r.State = m.state()
	return r, kind
}

// tell is all that a talk tells but its document, as a text.
func (m *model) tell() string {
	return fmt.Sprintf("%d in %v marks %q", m.state(), m.row, slices.Sorted(maps.Keys(m.marks)))
}

// maker makes random lines.
type maker struct {
	r     *rand.Rand
	m     *model
	marks bool // many of them
}

func (k *maker) oneIn(n int) bool { return k.r.Intn(n) == 0 }

func (k *maker) oneOf(l ...string) string { return l[k.r.Intn(len(l))] }

// name is a name of a few, so that they meet.
func (k *maker) name() string { return k.oneOf("a", "b", "c", "d", "e", "f", "g", "h", "i", "k") }

// there is a name that is declared, said as it may be.
func (k *maker) there() string {
	l := k.m.docs[k.m.state()].Env().List()
	if len(l) == 0 || k.oneIn(15) {
		return k.name()
	}
	name := l[k.r.Intn(len(l))].Name
	if i := strings.LastIndex(name, "."); i >= 0 && k.oneIn(2) {
		name = name[i+1:]
	}
	return name
}

// typ is the text of a type, more or less.
func (k *maker) typ() string {
	switch k.r.Intn(7) {
	case 0:
		return "Type0"
	case 1:
		return k.typ() + " -> " + k.typ()
	case 2:
		return "pi x : " + k.there() + " , " + k.typ()
	case 3:
		return k.there()
	}
	return "nat"
}

// value is the text of a term, more or less.
func (k *maker) value() string {
	switch k.r.Intn(7) {
	case 0:
		return "s ( " + k.value() + " )"
	case 1:
		return "fun x : " + k.typ() + " => " + k.oneOf("x", k.value())
	case 2:
		return "let x : nat := " + k.value() + " in x"
	case 3, 4:
		return k.there()
	}
	return "o"
}

// line is a line that is often accepted.
func (k *maker) line() string {
	opens := k.m.docs[k.m.state()].Opens()
	last := k.name()
	if len(opens) > 0 && !k.oneIn(5) {
		last = opens[len(opens)-1].Name
	}
	state := k.m.row[k.r.Intn(len(k.m.row))]
	if k.oneIn(4) {
		state = k.m.state() - k.r.Intn(6) + 2
	}
	n := k.r.Intn(60)
	if k.marks && k.oneIn(3) {
		n = 40
	}
	switch {
	case k.m.docs[k.m.state()].Env().Len() == 0 && !k.oneIn(4):
		return nats
	case n < 8:
		return "axiom " + k.name() + " : " + k.typ() + " ."
	case n < 12:
		return "def " + k.name() + " : nat := " + k.value() + " ."
	case n < 16:
		f := k.name()
		return "family " + f + " 0 : Type0 { " + k.name() + " : " + f + " ; " + k.name() + " : " + k.oneOf(f, k.there()) + " -> " + f + " } ."
	case n < 20:
		return "space " + k.name() + " ."
	case n < 23:
		return "section " + k.name() + " ."
	case n < 27:
		return "var " + k.name() + " : " + k.typ() + " ."
	case n < 31:
		return "end " + last + " ."
	case n < 35:
		return fmt.Sprintf("undo %d .", k.r.Intn(1+k.r.Intn(6)))
	case n < 38:
		return fmt.Sprintf("back %d .", max(state, 0))
	case n < 43:
		return "mark " + k.name() + k.oneOf("", "", "", "1", "2", "3", "4") + " ."
	case n < 47:
		for _, name := range slices.Sorted(maps.Keys(k.m.marks)) {
			if slices.Contains(k.m.row, k.m.marks[name]) && k.oneIn(2) {
				return "restore " + name + " ."
			}
		}
		return "restore " + k.name() + k.oneOf("", "", "", "1", "2", "3", "4") + " ."
	case n < 50:
		return "commit ."
	case n < 55:
		return "check " + k.value() + " ."
	}
	return "print " + k.there() + " ."
}

// spoilt is a line with some byte of it otherwise, or with blanks behind.
func (k *maker) spoilt(line string) string {
	i := k.r.Intn(len(line))
	switch k.r.Intn(5) {
	case 0:
		return line[:i] + line[i+1:]
	case 1:
		return line[:i] + k.oneOf(" ", ".", ":", "Z", "\x00", "@", "\xff") + line[i+1:]
	case 2:
		return line[:i]
	case 3:
		return line + strings.Repeat(" ", 2000-len(line)+k.r.Intn(2))
	}
	return line + k.oneOf(" .", "x", " commit .", "\n")
}

// outcome: how a line ended whose sentence was of a Kind, 0 of none.
type outcome struct{ kind, err int }

// both says a line to both, and fails the test where they differ.
func (k *maker) both(t *testing.T, x *talk.Talk, line string) outcome {
	t.Helper()
	was := k.m.tell()
	want, kind := k.m.say(line)
	if got := x.Say(line); got != want {
		t.Fatalf("%s: %q: %v; want %v", was, line, got, want)
	}
	if tell(x) != k.m.tell() || !doc.Same(x.Past().Now(), k.m.docs[k.m.state()]) {
		t.Fatalf("%s: %q: %s; want %s", was, line, tell(x), k.m.tell())
	}
	return outcome{kind, want.Err}
}

// least: how often a random line ends so, at least.
var least = map[outcome]int{
	{0, int(api.ErrForm)}: 1000, {0, int(api.ErrLarge)}: 100,
	{api.SAxiom, 0}: 2000, {api.SDef, 0}: 500, {api.SFamily, 0}: 1000, {api.SSpace, 0}: 1000, {api.SSection, 0}: 800, {api.SVar, 0}: 200, {api.SEnd, 0}: 500,
	{api.SUndo, 0}: 500, {api.SBack, 0}: 900, {api.SMark, 0}: 2000, {api.SRestore, 0}: 500, {api.SCommit, 0}: 1500, {api.SCheck, 0}: 1000, {api.SPrint, 0}: 1500,
	{api.SAxiom, int(api.ErrName)}: 300, {api.SVar, int(api.ErrOpen)}: 300, {api.SEnd, int(api.ErrOpen)}: 300, {api.SPrint, int(api.ErrName)}: 50, {api.SDef, int(api.ErrType)}: 50,
	{api.SUndo, int(api.ErrState)}: 500, {api.SBack, int(api.ErrState)}: 100, {api.SRestore, int(api.ErrState)}: 500, {api.SMark, int(api.ErrFull)}: 100, {api.SFamily, int(api.ErrFuel)}: 30, {api.SCheck, int(api.ErrFuel)}: 30,
}

// Random lines do what the chapter says, word by word.
func TestP24_1Model(t *testing.T) {
	outcomes := map[outcome]int{}
	for seed := range int64(400) {
		k := &maker{r: rand.New(rand.NewSource(seed)), marks: seed%5 == 0}
		fuel := []int{2000, 2000, 2000, 30, 6, 1 << 40, -1}[seed%7]
		x := talk.New(fuel)
		k.m = newModel(fuel)
		for range 100 {
			line := k.line()
			if k.oneIn(12) {
				line = k.spoilt(line)
			}
			outcomes[k.both(t, x, line)]++
		}
	}
	for o, n := range least {
		if outcomes[o] < n {
			t.Errorf("Kind %d, error %d: %d", o.kind, o.err, outcomes[o])
		}
	}
}

// Likewise where there is hardly any room for another state.
func TestP24_1ModelNoRoom(t *testing.T) {
	full := map[int]int{}
	for seed := range int64(8) {
		k := &maker{r: rand.New(rand.NewSource(seed)), m: newModel(2000)}
		x := talk.New(2000)
		k.both(t, x, nats)
		for range 149 {
			k.both(t, x, "space c .")
			k.both(t, x, "end c .")
		}
		for range 400 {
			line := k.line()
			if strings.HasPrefix(line, "undo") || strings.HasPrefix(line, "back") || strings.HasPrefix(line, "restore") {
				line = k.oneOf("undo 1 .", "undo 2 .", "restore a .")
			}
			if o := k.both(t, x, line); o.err == int(api.ErrFull) {
				full[o.kind]++
			}
		}
	}
	for _, kind := range []int{api.SAxiom, api.SFamily, api.SSpace, api.SSection} {
		if full[kind] < 15 {
			t.Errorf("Kind %d: no room %d times", kind, full[kind])
		}
	}
}
