package keep_test

import (
	"encoding/binary"
	"fmt"
	"maps"
	"math/rand"
	"slices"
	"strings"
	"testing"

	"vademecum/api"
	"vademecum/doc"
	"vademecum/keep"
	"vademecum/sent"
)

// modelBytes is Bytes told by the library's own numbers.
func modelBytes(r api.Record) string {
	if r.Kind != 1 && r.Kind != 2 && r.Kind != 3 || r.N < 0 || len(r.Text) > 2000 {
		return ""
	}
	b := binary.AppendUvarint([]byte{byte(r.Kind)}, uint64(r.N))
	return string(binary.AppendUvarint(b, uint64(len(r.Text)))) + r.Text
}

// modelNumber is the number in s from a place on, where it ends, and what is wrong with it.
func modelNumber(s string, from int) (n, to int, why api.Errno) {
	for i := from; i < len(s); i++ {
		switch {
		case i > from && s[i] == 0, i == from+7 && s[i] > 127:
			return 0, 0, api.ErrForm
		case s[i] < 128:
			n, size := binary.Uvarint([]byte(s[from:]))
			return int(n), from + size, api.OK
		}
	}
	return 0, 0, api.ErrShort
}

// modelRead is Read by the places in s, each fault by the first of the chapter's row.
func modelRead(s string) (api.Record, api.Errno) {
	var l [3]int
	at := 0
	for i := range l {
		n, to, why := modelNumber(s, at)
		if why != api.OK {
			return api.Record{}, why
		}
		l[i], at = n, to
	}
	switch {
	case l[2] > 2000:
		return api.Record{}, api.ErrLarge
	case len(s) < at+l[2]:
		return api.Record{}, api.ErrShort
	case len(s) > at+l[2] || l[0] < 1 || l[0] > 3:
		return api.Record{}, api.ErrForm
	}
	return api.Record{Kind: l[0], N: l[1], Text: s[at:]}, api.OK
}

// agrees holds Read against the model, and what is read against its Bytes.
func agrees(t *testing.T, s string) api.Errno {
	t.Helper()
	want, why := modelRead(s)
	if why != api.OK {
		unread(t, s, why)
		return why
	}
	reads(t, s, want)
	if got := keep.Bytes(want); got != s {
		t.Errorf("%.60q is read, and put as %.60q", s, got)
	}
	return api.OK
}

// randomText is at most so many bytes, of few kinds so that numbers end and go on.
func randomText(r *rand.Rand, most int) string {
	kinds := "\x00\x01\x02\x03\x04\x7f\x80\x81\xff" + string([]byte{byte(r.Intn(256))})
	b := make([]byte, r.Intn(most+1))
	for i := range b {
		b[i] = kinds[r.Intn(len(kinds))]
	}
	return string(b)
}

// randomRecord is a record, or nearly one.
func randomRecord(r *rand.Rand) api.Record {
	x := api.Record{Kind: r.Intn(5), N: r.Intn(4) - 1, Text: randomText(r, 12)}
	if r.Intn(3) == 0 {
		x.N = r.Int() >> r.Intn(64)
	}
	if r.Intn(8) == 0 {
		x.Text = strings.Repeat("x", 1998+r.Intn(5))
	}
	return x
}

func TestP25_1ModelBytes(t *testing.T) {
	r := rand.New(rand.NewSource(251))
	none, read := 0, 0
	for range 20000 {
		x := randomRecord(r)
		b := keep.Bytes(x)
		if b != modelBytes(x) {
			t.Fatalf("bytes of %.60v: %.60q; want %.60q", x, b, modelBytes(x))
		}
		switch {
		case b == "":
			none++
		case x.N < 1<<56:
			read++
			reads(t, b, x)
		default:
			unread(t, b, api.ErrForm)
		}
	}
	if none < 5000 || read < 5000 {
		t.Errorf("%d without bytes, %d read", none, read)
	}
}

// Bytes of any form, and of records that are changed, cut off and lengthened.
func TestP25_1ModelRead(t *testing.T) {
	r := rand.New(rand.NewSource(252))
	seen := map[api.Errno]int{}
	for range 60000 {
		s := randomText(r, 9)
		if r.Intn(3) > 0 {
			x := randomRecord(r)
			s = string(binary.AppendUvarint(nil, uint64(r.Intn(5)))) + string(binary.AppendUvarint(nil, uint64(max(x.N, 0)))) + string(binary.AppendUvarint(nil, uint64(len(x.Text)))) + x.Text
		}
		switch r.Intn(5) {
		case 0:
			s = s[:r.Intn(len(s)+1)]
		case 1:
			s += randomText(r, 2)
		case 2:
			if len(s) > 0 {
				i := r.Intn(min(len(s), 12))
				s = s[:i] + string([]byte{byte(r.Intn(256))}) + s[i+1:]
			}
		}
		seen[agrees(t, s)]++
	}
	for _, why := range []api.Errno{api.OK, api.ErrForm, api.ErrShort, api.ErrLarge} {
		if seen[why] < 1000 {
			t.Errorf("%v: only %d of what was read", why, seen[why])
		}
	}
}

// model is a talk and what is done again, by the chapters word by word, with the document of each state that ever was.
type model struct {
	fuel  int
	row   []int // numbers
	docs  map[int]*doc.Doc
	last  int
	marks map[string]int
}

func newModel(fuel int) *model {
	return &model{fuel: min(max(fuel, 0), 20000), row: []int{0}, docs: map[int]*doc.Doc{0: doc.New()}, marks: map[string]int{}}
}

func (m *model) state() int { return m.row[len(m.row)-1] }

func (m *model) now() *doc.Doc { return m.docs[m.state()] }

func (m *model) back(state int) bool {
	i := slices.Index(m.row, state)
	if i >= 0 {
		m.row = m.row[:i+1]
	}
	return i >= 0
}

// say tells whether a line is accepted, and does it then.
func (m *model) say(line string) bool {
	x, err := sent.Parse(line)
	if err != nil {
		return false
	}
	switch x.Kind {
	case api.SUndo:
		if x.N < 1 || x.N >= len(m.row) {
			return false
		}
		m.row = m.row[:len(m.row)-x.N]
		return true
	case api.SBack:
		return m.back(x.N)
	case api.SMark:
		if _, ok := m.marks[x.Name]; !ok && len(m.marks) == 20 {
			return false
		}
		m.marks[x.Name] = m.state()
		return true
	case api.SRestore:
		state, ok := m.marks[x.Name]
		return ok && m.back(state)
	case api.SCommit:
		return true
	}
	d, _, err := m.now().Do(x, m.fuel)
	asks := x.Kind == api.SCheck || x.Kind == api.SPrint
	if err != nil || asks || len(m.row) == 300 {
		return err == nil && asks
	}
	m.last++
	m.row = append(slices.Clone(m.row), m.last)
	m.docs[m.last] = d
	return true
}

// rebase makes the present document the only state.
func (m *model) rebase(n int) {
	*m = model{fuel: m.fuel, row: []int{n}, docs: map[int]*doc.Doc{n: m.now()}, last: n, marks: map[string]int{}}
}

// replay tells how many records can be done, and does them.
func (m *model) replay(l []api.Record) int {
	bases := 0
	for bases < len(l) && l[bases].Kind == 2 {
		bases++
	}
	for i, r := range l {
		ok := false
		switch {
		case i < bases:
			if ok = r.Text == "" || m.say(r.Text); ok {
				m.rebase(r.N)
			}
		case r.Kind == 1:
			ok = m.say(r.Text)
		case r.Kind == 3:
			ok = true
		}
		if !ok {
			return i
		}
	}
	return len(l)
}

// tell is all that is told of it but its document, as a text.
func (m *model) tell() string {
	return fmt.Sprintf("%d in %v marks %q", m.state(), m.row, slices.Sorted(maps.Keys(m.marks)))
}

// randomLog is a row of records that can be done with this fuel, as a rule.
func (k *maker) randomLog(fuel int) []api.Record {
	k.m = newModel(fuel)
	var l []api.Record
	for range k.r.Intn(9) - 3 {
		line := k.line()
		if k.oneIn(8) {
			line = ""
		}
		if line == "" || k.m.say(line) {
			l = append(l, base(k.r.Intn(20), line))
			k.m.rebase(l[len(l)-1].N)
		}
	}
	for range 5 + k.r.Intn(40) {
		line := k.line()
		switch {
		case k.oneIn(8):
			l = append(l, commit)
		case k.m.say(line):
			l = append(l, said(line)...)
		}
	}
	return l
}

// spoilt is a row of records with one that often can't be done.
func (k *maker) spoilt(l []api.Record) []api.Record {
	at := k.r.Intn(len(l) + 1)
	bad := api.Record{Kind: k.r.Intn(6) - 1, N: k.r.Intn(30) - 2, Text: k.oneOf("", "no sentence", nats, "axiom n : zz .", "space a .", "undo 1 .", k.line())}
	switch {
	case k.oneIn(3) && at < len(l):
		return slices.Concat(l[:at], l[at+1:])
	case k.oneIn(2) && at < len(l):
		return slices.Concat(l[:at], []api.Record{bad}, l[at+1:])
	}
	return slices.Concat(l[:at], []api.Record{bad}, l[at:])
}

// Random logs are done as the chapter says, word by word.
func TestP25_2ModelReplay(t *testing.T) {
	all, ended, based := 0, 0, 0
	for seed := range int64(1200) {
		k := &maker{r: rand.New(rand.NewSource(seed))}
		fuel := []int{2000, 2000, 2000, 1 << 40, 7, 3, -1}[seed%7]
		l := k.randomLog(fuel)
		if seed%2 == 0 {
			l = k.spoilt(l)
		}
		if seed%5 == 0 {
			fuel = k.r.Intn(12)
		}
		m := newModel(fuel)
		want := m.replay(l)
		x := replays(t, fuel, l, want, m.tell(), m.now())
		if want == len(l) {
			all++
		} else {
			ended++
		}
		if want > 1 && l[1].Kind == api.RBase {
			based++
		}
		// Each state that is left is what it was.
		for len(m.row) > 1 {
			if !doc.Same(x.Past().Now(), m.now()) || x.Past().State() != m.state() || x.Past().Undo(1) != nil || !m.say("undo 1 .") {
				t.Fatalf("seed %d: state %d", seed, m.state())
			}
		}
	}
	if all < 400 || ended < 400 || based < 300 {
		t.Errorf("%d logs to their end, %d not, %d with bases", all, ended, based)
	}
}

// modelBase are the sentences that a document prints of what it holds, by name; of a constructor none, as it was told with its family.
func modelBase(t *testing.T, d *doc.Doc) []string {
	t.Helper()
	var l []string
	for _, x := range d.Env().List() {
		_, text, err := d.Do(api.Sentence{Kind: api.SPrint, Name: x.Name}, 0)
		if err != nil {
			t.Fatalf("print %s: %v", x.Name, err)
		}
		if x.Of == "" {
			l = append(l, text)
		}
	}
	return l
}

// What is told of random documents is what they print.
func TestP25_2ModelBase(t *testing.T) {
	lines, open := 0, 0
	for seed := range int64(200) {
		k := &maker{r: rand.New(rand.NewSource(seed)), m: newModel(enough)}
		for range 60 {
			k.m.say(k.line())
			d := k.m.now()
			l, ok := keep.Base(d)
			if ok != (len(d.Opens()) == 0) || !ok && l != nil {
				t.Fatalf("seed %d: %v, %q", seed, ok, l)
			}
			if !ok {
				open++
				continue
			}
			if want := modelBase(t, d); !slices.Equal(l, want) {
				t.Fatalf("seed %d: %q; want %q", seed, l, want)
			}
			lines += len(l)
		}
	}
	if lines < 10000 || open < 1000 {
		t.Errorf("%d lines, %d open", lines, open)
	}
}
