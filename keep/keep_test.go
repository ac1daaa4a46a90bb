package keep_test

import (
	"errors"
	"fmt"
	"math"
	"slices"
	"strings"
	"testing"

	"vademecum/api"
	"vademecum/doc"
	"vademecum/keep"
	"vademecum/sent"
	"vademecum/talk"
)

const nats = "family nat 0 : Type0 { o : nat ; s : nat -> nat } ."

// toldNats is that family as it is printed.
const toldNats = "family nat 0 : Type0 { o : nat ; s : pi _0 : nat , nat } ."

// enough fuel for whatever is said here, where it isn't about fuel.
const enough = 2000

// base is a record of a base.
func base(n int, text string) api.Record { return api.Record{Kind: api.RBase, N: n, Text: text} }

// said are the records of sentences.
func said(lines ...string) []api.Record {
	var l []api.Record
	for _, line := range lines {
		l = append(l, api.Record{Kind: api.RSentence, Text: line})
	}
	return l
}

// commit is a record of a commit.
var commit = api.Record{Kind: api.RCommit}

// log is one row of records of several ones.
func log(l ...[]api.Record) []api.Record { return slices.Concat(l...) }

// more is a document that these lines make of another one, each of which must be accepted.
func more(t *testing.T, d *doc.Doc, lines ...string) *doc.Doc {
	t.Helper()
	for _, line := range lines {
		x, err := sent.Parse(line)
		if err != nil {
			t.Fatalf("%s: %v", line, err)
		}
		next, _, err := d.Do(x, enough)
		if err != nil {
			t.Fatalf("%s: %v", line, err)
		}
		d = next
	}
	return d
}

// made is a document that these lines make.
func made(t *testing.T, lines ...string) *doc.Doc {
	t.Helper()
	return more(t, doc.New(), lines...)
}

// tell is all that a talk tells but its document, as a text.
func tell(x *talk.Talk) string {
	p := x.Past()
	return fmt.Sprintf("%d in %v marks %q", p.State(), p.States(), p.Marks())
}

// reads fails the test where bytes aren't read as a record.
func reads(t *testing.T, s string, want api.Record) {
	t.Helper()
	if r, err := keep.Read(s); r != want || err != nil {
		t.Errorf("read %.60q: %.80v, %v; want %.80v", s, r, err, want)
	}
}

// unread fails the test where bytes are read, or refused with another error.
func unread(t *testing.T, s string, want api.Errno) {
	t.Helper()
	r, err := keep.Read(s)
	var n api.Errno
	if r != (api.Record{}) || !errors.Is(err, want) || !errors.As(err, &n) || n != want {
		t.Errorf("read %.60q: %.80v, %v; want %v", s, r, err, want)
	}
	if err != nil && !strings.Contains(err.Error(), want.Error()) {
		t.Errorf("read %.60q: %q doesn't tell the number", s, err.Error())
	}
}

// replays fails the test where a log isn't done so far, or makes another talk.
func replays(t *testing.T, fuel int, l []api.Record, n int, want string, now *doc.Doc) *talk.Talk {
	t.Helper()
	x, got := keep.Replay(fuel, l)
	if got != n || tell(x) != want {
		t.Errorf("replay %.200v: %d, %s; want %d, %s", l, got, tell(x), n, want)
	}
	if !doc.Same(x.Past().Now(), now) {
		t.Errorf("replay %.200v: another document", l)
	}
	return x
}

// answers fails the test where a talk answers otherwise.
func answers(t *testing.T, x *talk.Talk, line string, want api.Reply) {
	t.Helper()
	if got := x.Say(line); got != want {
		t.Errorf("%.200q: %v; want %v", line, got, want)
	}
}

// holds fails the test where a document's base is another one.
func holds(t *testing.T, d *doc.Doc, want ...string) {
	t.Helper()
	if l, ok := keep.Base(d); !ok || !slices.Equal(l, want) {
		t.Errorf("base: %v, %q; want %q", ok, l, want)
	}
}

func TestP25_1Bytes(t *testing.T) {
	line := strings.Repeat("x", api.MaxLine)
	for _, c := range []struct {
		r    api.Record
		want string
	}{
		{api.Record{Kind: api.RSentence}, "\x01\x00\x00"},
		{api.Record{Kind: api.RBase}, "\x02\x00\x00"},
		{api.Record{Kind: api.RCommit}, "\x03\x00\x00"},
		{api.Record{Kind: api.RSentence, Text: "undo 1 ."}, "\x01\x00\x08undo 1 ."},
		{api.Record{Kind: api.RBase, N: 127, Text: "."}, "\x02\x7f\x01."},
		{api.Record{Kind: api.RBase, N: 128, Text: "\x00\xff"}, "\x02\x80\x01\x02\x00\xff"},
		{api.Record{Kind: api.RCommit, N: 300, Text: line[:127]}, "\x03\xac\x02\x7f" + line[:127]},
		{api.Record{Kind: api.RSentence, N: 1, Text: line[:128]}, "\x01\x01\x80\x01" + line[:128]},
		{api.Record{Kind: api.RCommit, Text: line}, "\x03\x00\xd0\x0f" + line},
		{api.Record{Kind: api.RBase, N: 1<<56 - 1}, "\x02\xff\xff\xff\xff\xff\xff\xff\x7f\x00"},
	} {
		if got := keep.Bytes(c.r); got != c.want {
			t.Errorf("bytes of %.60v: %.60q; want %.60q", c.r, got, c.want)
		}
		reads(t, c.want, c.r)
		unread(t, c.want+"\x00", api.ErrForm)
		unread(t, c.want+c.want, api.ErrForm)
		for cut := range len(c.want) {
			unread(t, c.want[:cut], api.ErrShort)
		}
	}
}

func TestP25_1NoBytes(t *testing.T) {
	long := strings.Repeat("x", api.MaxLine+1)
	for _, r := range []api.Record{
		{}, {Kind: 4}, {Kind: -1}, {Kind: 9, N: 3, Text: "a ."}, {Kind: math.MinInt}, {Kind: math.MaxInt}, {Kind: 1 << 32}, {Kind: 257}, {N: 2, Text: "a ."},
		{Kind: api.RSentence, N: -1}, {Kind: api.RBase, N: -1, Text: "a ."}, {Kind: api.RCommit, N: math.MinInt},
		{Kind: api.RSentence, Text: long}, {Kind: api.RBase, Text: long}, {Kind: api.RCommit, Text: long}, {Kind: api.RBase, N: 7, Text: long + long},
	} {
		if got := keep.Bytes(r); got != "" {
			t.Errorf("bytes of %.60v: %.60q", r, got)
		}
	}
}

// A number is put in as many bytes as it needs, also where pack takes none of so many.
func TestP25_1LargestNumbers(t *testing.T) {
	for n, want := range map[int]string{
		1 << 56:     "\x02\x80\x80\x80\x80\x80\x80\x80\x80\x01\x01.",
		math.MaxInt: "\x02\xff\xff\xff\xff\xff\xff\xff\xff\x7f\x01.",
	} {
		if got := keep.Bytes(base(n, ".")); got != want {
			t.Errorf("bytes of N %d: %q; want %q", n, got, want)
		}
		unread(t, want, api.ErrForm)
	}
}

func TestP25_1Unread(t *testing.T) {
	long := strings.Repeat("x", api.MaxLine+1)
	seven := strings.Repeat("\x80", 7)
	for want, l := range map[api.Errno][]string{
		api.ErrShort: {"", "\x01", "\x80", seven, "\x01\x80", "\x01" + seven, "\x01\x00\x80", "\x01\x00", "\x01\x00\x01", "\x01\x00\x02a", "\x01\x00\xd0\x0f" + long[:1999], "\x02\x05\x80\x01" + long[:127],
			// pack's errors are told ahead of a Kind that is none.
			"\x00", "\x04", "\x00\x00", "\x04\x80", "\x7f\x00\x03ab"},
		api.ErrForm: {"\x81\x00\x00\x00", "\x01\x80\x00\x00", "\x01\x00\x81\x00a", seven + "\x00", seven + "\x80", seven + "\x80\x01", "\x01" + seven + "\x80", "\x01\x00" + seven + "\xff", "\x80\x00", "\x04\x80\x00",
			"\x00\x00\x00", "\x04\x00\x00", "\x81\x02\x00\x00", "\x7f\x00\x00", "\x00\x05\x01a", "\xff\xff\xff\xff\xff\xff\xff\x7f\x00\x00",
			"\x01\x00\x00\x00", "\x03\x00\x00a", "\x02\x00\x01ab", "\x04\x00\x00a", "\x01\x00\xd0\x0f" + long},
		api.ErrLarge: {"\x01\x00\xd1\x0f" + long, "\x01\x00\xd1\x0f", "\x02\x07\xd1\x0f" + long + "more", "\x03\x00\xff\xff\xff\xff\xff\xff\xff\x7f", "\x00\x00\xd1\x0f", "\x04\x00\xd1\x0f" + long},
	} {
		for _, s := range l {
			unread(t, s, want)
		}
	}
}

func TestP25_1ErrorsTellWhatWasFound(t *testing.T) {
	for s, want := range map[string]string{
		"":                 "keep: a record with a cut off Kind: pack: number, byte 0: error 11",
		"\x80\x00":         "keep: a record with an ill-formed Kind: pack: number, byte 1: error 10",
		"\x01\x80":         "keep: a record with a cut off N: pack: number, byte 1: error 11",
		"\x01\x80\x00":     "keep: a record with an ill-formed N: pack: number, byte 1: error 10",
		"\x01\x00\x02a":    "keep: a record with a cut off Text: pack: text, byte 2: error 11",
		"\x01\x00\x80\x00": "keep: a record with an ill-formed Text: pack: text, byte 1: error 10",
		"\x01\x00\xd1\x0f": "keep: a record with too large a Text: pack: text, byte 0: error 13",
		"\x04\x00\x00":     "keep: a record with another Kind: error 10",
		"\x01\x00\x00\x00": "keep: a record with more behind: error 10",
	} {
		if _, err := keep.Read(s); err == nil || err.Error() != want {
			t.Errorf("read %q: %v; want %s", s, err, want)
		}
	}
}

func TestP25_2Base(t *testing.T) {
	holds(t, doc.New())
	holds(t, made(t, nats), toldNats)
	d := made(t, "axiom a : Type0 -> Type1 .", nats, "axiom n:nat.", "def two : nat := s ( s o ) .")
	holds(t, d, "axiom a : pi _0 : Type0 , Type1 .", toldNats, "axiom n : nat .", "def two : nat := s ( s o ) .")
	// Families of all shapes: without constructors, with parameters, with indices.
	holds(t, made(t, nats, "family no 0 : Type2 { } .", "family list 1 : Type0 -> Type0 { nil : pi A : Type0 , list A ; cons : pi A : Type0 , A -> list A -> list A } .",
		"axiom n : no .", "family vec 1 : pi A : Type0 , nat -> Type0 { none : pi A : Type0 , vec A o ; one : pi A : Type0 , A -> vec A ( s o ) } ."),
		toldNats, "family no 0 : Type2 { } .", "family list 1 : pi _0 : Type0 , Type0 { nil : pi _0 : Type0 , list _0 ; cons : pi _0 : Type0 , pi _1 : _0 , pi _2 : list _0 , list _0 } .",
		"axiom n : no .", "family vec 1 : pi _0 : Type0 , pi _1 : nat , Type0 { none : pi _0 : Type0 , vec _0 o ; one : pi _0 : Type0 , pi _1 : _0 , vec _0 ( s o ) } .")
	// What came of a sentence, not what it was: of a recursor the sort, of a let its parts.
	holds(t, made(t, nats, "def id : nat -> nat := let x : nat := o in fun n : nat => nat.rec@0 ( fun m : nat => nat ) x ( fun m : nat => fun k : nat => s k ) n .", "def num : nat -> Type0 := nat.rec@1 ( fun m : nat => Type0 ) nat ( fun m : nat => fun k : Type0 => k ) ."),
		toldNats, "def id : pi _0 : nat , nat := let _0 : nat := o in fun _1 : nat => nat.rec@0 ( fun _2 : nat => nat ) _0 ( fun _2 : nat => fun _3 : nat => s _3 ) _1 .",
		"def num : pi _0 : nat , Type0 := nat.rec@1 ( fun _0 : nat => Type0 ) nat ( fun _0 : nat => fun _1 : Type0 => _1 ) .")
}

// Names are whole, and what a section left is what it became.
func TestP25_2BaseBehindEnds(t *testing.T) {
	d := made(t, nats, "space a .", "axiom x : nat .", "section b .", "var A : Type0 .", "space c .", "family f 0 : Type0 { o : f ; p : nat -> f -> f } .",
		"def id : A -> A := fun y : A => y .", "end c .", "axiom z : c.f .", "var v : A .", "def w : A := c.id v .", "end b .", "end a .", "axiom x : a.c.f .")
	holds(t, d, toldNats, "axiom a.x : nat .", "family a.c.f 0 : Type0 { a.c.o : a.c.f ; a.c.p : pi _0 : nat , pi _1 : a.c.f , a.c.f } .",
		"def a.c.id : pi _0 : Type0 , pi _1 : _0 , _0 := fun _0 : Type0 => fun _1 : _0 => _1 .", "axiom a.z : a.c.f .",
		"def a.w : pi _0 : Type0 , pi _1 : _0 , _0 := fun _0 : Type0 => fun _1 : _0 => a.c.id _0 _1 .", "axiom x : a.c.f .")
}

// While something is open, whatever it is, there is no base; then there is one again.
func TestP25_2BaseOpen(t *testing.T) {
	for _, lines := range [][]string{
		{"space a .", "end a ."}, {"section a .", "end a ."},
		{"space a .", "section b .", "end b .", "end a ."}, {"section a .", "space b .", "end b .", "end a ."},
		{"section a .", "var v : Type0 .", "end a ."}, {"space a .", "axiom n : nat .", "end a ."},
		{"space a .", "space a .", "space a .", "space a .", "space a .", "space a .", "end a .", "end a .", "end a .", "end a .", "end a .", "end a ."},
	} {
		for _, d := range []*doc.Doc{doc.New(), made(t, nats)} {
			if d.Env().Len() == 0 && len(lines) == 3 {
				continue
			}
			for i, line := range lines {
				d = more(t, d, line)
				l, ok := keep.Base(d)
				if last := i == len(lines)-1; ok != last || !ok && l != nil {
					t.Errorf("%q: %v, %q", lines[:i+1], ok, l)
				}
			}
		}
	}
	holds(t, made(t, nats, "space a .", "axiom n : nat .", "end a ."), toldNats, "axiom a.n : nat .")
}

// A sentence is told whole, though no line may be so long.
func TestP25_2BaseLong(t *testing.T) {
	d := made(t, nats, "axiom a : "+strings.Repeat("nat -> ", 280)+"nat .", "axiom b : nat .")
	l, ok := keep.Base(d)
	if !ok || len(l) != 3 || len(l[1]) <= api.MaxLine || !strings.HasPrefix(l[1], "axiom a : pi _0 : nat , pi _1 : nat , ") || !strings.HasSuffix(l[1], "pi _279 : nat , nat .") || l[2] != "axiom b : nat ." {
		t.Fatalf("%v, %.100q", ok, l)
	}
	replays(t, enough, []api.Record{base(5, l[0]), base(5, l[1]), base(5, l[2])}, 1, "5 in [5] marks []", made(t, nats))
}

// As many declarations as there may be.
func TestP25_2BaseFull(t *testing.T) {
	d := made(t, nats)
	want := []string{toldNats}
	for i := range api.MaxDecls - 3 {
		want = append(want, fmt.Sprintf("axiom a%d : nat .", i))
	}
	d = more(t, d, want[1:]...)
	holds(t, d, want...)
	if d.Env().Len() != api.MaxDecls {
		t.Errorf("%d declarations", d.Env().Len())
	}
}

// What a document holds by a name that no sentence may say is printed as no text, and stays in its place.
func TestP25_2BaseOfNoSentence(t *testing.T) {
	d := made(t, nats)
	for _, name := range []string{"fun", "Type0"} {
		next, _, err := d.Do(api.Sentence{Kind: api.SAxiom, Name: name, A: &api.Term{Kind: api.TConst, Name: "nat"}}, enough)
		if err != nil {
			t.Fatal(err)
		}
		d = next
	}
	holds(t, more(t, d, "axiom n : nat ."), toldNats, "", "", "axiom n : nat .")
}

func TestP25_2ReplayNone(t *testing.T) {
	x := replays(t, enough, nil, 0, "0 in [0] marks []", doc.New())
	answers(t, x, "undo 1 .", api.Reply{Err: int(api.ErrState)})
	answers(t, x, nats, api.Reply{State: 1})
	replays(t, enough, []api.Record{}, 0, "0 in [0] marks []", doc.New())
}

func TestP25_2ReplaySentences(t *testing.T) {
	replays(t, enough, said(nats), 1, "1 in [0 1] marks []", made(t, nats))
	l := said(nats, "axiom a : nat .", "undo 1 .", "mark m .", "space q .", "axiom b : nat .", "back 3 .", "restore m .", "space r .", "mark k .")
	states := []string{"1 in [0 1] marks []", "2 in [0 1 2] marks []", "1 in [0 1] marks []", `1 in [0 1] marks ["m"]`, `3 in [0 1 3] marks ["m"]`, `4 in [0 1 3 4] marks ["m"]`,
		`3 in [0 1 3] marks ["m"]`, `1 in [0 1] marks ["m"]`, `5 in [0 1 5] marks ["m"]`, `5 in [0 1 5] marks ["k" "m"]`}
	docs := []*doc.Doc{made(t, nats), made(t, nats, "axiom a : nat ."), made(t, nats), made(t, nats), made(t, nats, "space q ."), made(t, nats, "space q .", "axiom b : nat ."),
		made(t, nats, "space q ."), made(t, nats), made(t, nats, "space r ."), made(t, nats, "space r .")}
	for i, want := range states {
		x := replays(t, enough, l[:i+1], i+1, want, docs[i])
		// It goes on like a talk to which all was said.
		answers(t, x, "section b .", api.Reply{State: []int{2, 3, 3, 3, 4, 5, 5, 5, 6, 6}[i]})
	}
	// What a line asks for isn't all that it may say: it has to be accepted.
	replays(t, enough, said(nats, "check s o .", "print o .", "commit .", "axiom n : nat ."), 5, "2 in [0 1 2] marks []", made(t, nats, "axiom n : nat ."))
	// What else a record has counts for nothing.
	replays(t, enough, []api.Record{{Kind: api.RSentence, N: 40, Text: nats}, {Kind: api.RSentence, N: -3, Text: "space a ."}, {Kind: api.RCommit, N: 7, Text: "undo 1 ."}, {Kind: api.RCommit, N: -7, Text: "no sentence"}},
		4, "2 in [0 1 2] marks []", made(t, nats, "space a ."))
}

func TestP25_2ReplayCommits(t *testing.T) {
	replays(t, enough, []api.Record{commit, commit, commit}, 3, "0 in [0] marks []", doc.New())
	replays(t, 0, []api.Record{commit}, 1, "0 in [0] marks []", doc.New())
	replays(t, enough, log([]api.Record{commit}, said(nats), []api.Record{commit, commit}, said("axiom n : nat ."), []api.Record{commit}), 6, "2 in [0 1 2] marks []", made(t, nats, "axiom n : nat ."))
}

func TestP25_2ReplayBases(t *testing.T) {
	bases := func(n int, lines ...string) []api.Record {
		var l []api.Record
		for _, line := range lines {
			l = append(l, base(n, line))
		}
		return l
	}
	for _, n := range []int{0, 1, 7, 300, 1 << 40, -1, math.MinInt} {
		in := fmt.Sprintf("%d in [%d] marks []", n, n)
		replays(t, enough, bases(n, ""), 1, in, doc.New())
		replays(t, enough, bases(n, "", "", ""), 3, in, doc.New())
		x := replays(t, enough, bases(n, nats, "axiom a : nat .", "axiom b : nat ."), 3, in, made(t, nats, "axiom a : nat .", "axiom b : nat ."))
		answers(t, x, "undo 1 .", api.Reply{Err: int(api.ErrState), State: n})
		answers(t, x, "axiom c : nat .", api.Reply{State: n + 1})
		x = replays(t, enough, log(bases(n, nats, "", "axiom a : nat ."), []api.Record{commit}, said("axiom b : nat .", "mark m .", "undo 1 .", "axiom c : nat .")), 8,
			fmt.Sprintf(`%d in [%d %d] marks ["m"]`, n+2, n, n+2), made(t, nats, "axiom a : nat .", "axiom c : nat ."))
		answers(t, x, "restore m .", api.Reply{Err: int(api.ErrState), State: n + 2})
	}
	// The last number counts.
	x := replays(t, enough, []api.Record{base(3, nats), base(9, "axiom a : nat ."), base(5, "")}, 3, "5 in [5] marks []", made(t, nats, "axiom a : nat ."))
	answers(t, x, "space a .", api.Reply{State: 6})
	// Each one says a line, whichever; what it makes but the document goes with the states.
	replays(t, enough, bases(4, nats, "mark m .", "check o .", "print o .", "commit .", "space q .", "axiom a : nat .", "back 4 ."), 8, "4 in [4] marks []", made(t, nats, "space q .", "axiom a : nat ."))
	replays(t, enough, log(bases(4, nats, "mark m ."), said("restore m .")), 2, "4 in [4] marks []", made(t, nats))
	replays(t, enough, bases(4, nats, "undo 1 ."), 1, "4 in [4] marks []", made(t, nats))
	replays(t, enough, []api.Record{base(4, nats), base(5, "back 4 ."), base(6, "back 4 .")}, 2, "5 in [5] marks []", made(t, nats))
}

// The first record that can't be done ends it, whatever comes behind.
func TestP25_2ReplayEnds(t *testing.T) {
	long := strings.Repeat(" ", api.MaxLine)
	for _, bad := range []api.Record{
		{}, {Kind: 4}, {Kind: -1}, {Kind: 4, Text: "space a ."}, {Kind: math.MaxInt}, {Kind: math.MinInt}, {Kind: 257, Text: "space a ."},
		base(9, ""), base(9, "space a ."), base(9, nats),
		{Kind: api.RSentence}, {Kind: api.RSentence, Text: "no sentence"}, {Kind: api.RSentence, Text: "axiom a : zz ."}, {Kind: api.RSentence, Text: "undo 2 ."}, {Kind: api.RSentence, Text: "undo 0 ."},
		{Kind: api.RSentence, Text: "restore m ."}, {Kind: api.RSentence, Text: "back 2 ."}, {Kind: api.RSentence, Text: "end a ."}, {Kind: api.RSentence, Text: nats}, {Kind: api.RSentence, Text: "check zz ."},
		{Kind: api.RSentence, Text: "print zz ."}, {Kind: api.RSentence, Text: "space a ." + long}, {Kind: api.RSentence, Text: "space a . space a ."}, {Kind: api.RSentence, Text: "\x00"},
	} {
		for _, behind := range [][]api.Record{nil, said("axiom n : nat ."), {commit}, {bad}, said("space a .", "space b .")} {
			replays(t, enough, log(said(nats), []api.Record{bad}, behind), 1, "1 in [0 1] marks []", made(t, nats))
			replays(t, enough, log([]api.Record{base(6, ""), commit}, said(nats), []api.Record{bad}, behind), 3, "7 in [6 7] marks []", made(t, nats))
		}
	}
	replays(t, enough, log([]api.Record{commit}, []api.Record{base(3, "")}), 1, "0 in [0] marks []", doc.New())
	replays(t, enough, log([]api.Record{base(3, nats), commit}, []api.Record{base(3, ""), commit}), 2, "3 in [3] marks []", made(t, nats))
	replays(t, enough, log(said(nats), []api.Record{commit}, []api.Record{base(3, "")}), 2, "1 in [0 1] marks []", made(t, nats))
	replays(t, enough, log(said("mark m ."), []api.Record{base(3, "")}), 1, `0 in [0] marks ["m"]`, doc.New())
	// A base whose line isn't accepted is no state.
	for _, text := range []string{"axiom a : zz .", "no sentence", " ", nats, "undo 1 .", "restore m .", "end a .", "space a ." + long} {
		for _, behind := range [][]api.Record{nil, {base(8, "axiom n : nat .")}, said("axiom n : nat ."), {commit}} {
			replays(t, enough, log([]api.Record{base(3, nats), base(8, text)}, behind), 1, "3 in [3] marks []", made(t, nats))
		}
	}
	replays(t, enough, []api.Record{base(8, "axiom a : zz ."), base(8, "")}, 0, "0 in [0] marks []", doc.New())
	replays(t, enough, []api.Record{{Kind: 9}, base(8, ""), commit}, 0, "0 in [0] marks []", doc.New())
}

// Each sentence has all of the fuel, which is held, and so has what is said to the talk later.
func TestP25_2ReplayFuel(t *testing.T) {
	lines := []string{"axiom a : Type0 .", "axiom b : Type0 -> Type0 .", "family f 0 : Type0 { c : f -> f } .", nats, "def d : nat := s o ."}
	needs := []int{1, 3, 5, 6, 6}
	for fuel := -1; fuel < 8; fuel++ {
		n := 0
		for n < len(needs) && needs[n] <= fuel {
			n++
		}
		in := fmt.Sprintf("%d in %v marks []", n, []int{0, 1, 2, 3, 4, 5}[:n+1])
		x := replays(t, fuel, said(lines...), n, in, made(t, lines[:n]...))
		var l []api.Record
		for _, line := range lines {
			l = append(l, base(9, line))
		}
		at := 9
		if n == 0 {
			at = 0
		}
		y := replays(t, fuel, l, n, fmt.Sprintf("%d in [%d] marks []", at, at), made(t, lines[:n]...))
		for _, x := range []*talk.Talk{x, y} {
			want := api.Reply{State: x.Past().State(), Text: "Type1"}
			if fuel < 3 {
				want = api.Reply{Err: int(api.ErrFuel), State: x.Past().State()}
			}
			answers(t, x, "check Type0 -> Type0 .", want)
		}
	}
	for _, fuel := range []int{math.MinInt, -1, 0} {
		replays(t, fuel, said("space a .", "axiom a : Type0 ."), 1, "1 in [0 1] marks []", made(t, "space a ."))
		replays(t, fuel, []api.Record{base(3, ""), base(3, "axiom a : Type0 .")}, 1, "3 in [3] marks []", doc.New())
	}
	for _, fuel := range []int{api.MaxFuel, api.MaxFuel + 1, math.MaxInt} {
		replays(t, fuel, said(lines...), 5, "5 in [0 1 2 3 4 5] marks []", made(t, lines...))
	}
}

// Where there is no room for another state, a sentence that makes one can't be done; bases need room for one.
func TestP25_2ReplayNoRoom(t *testing.T) {
	l := said(nats)
	for range (api.MaxStates - 2) / 2 {
		l = append(l, said("space a .", "end a .")...)
	}
	x, n := keep.Replay(enough, log(l, said("mark m .", "axiom n : nat .", "undo 1 .")))
	if n != len(l)+1 || len(x.Past().States()) != api.MaxStates || x.Past().State() != 299 || !doc.Same(x.Past().Now(), made(t, nats)) {
		t.Errorf("%d of %d, %s", n, len(l), tell(x))
	}
	x, n = keep.Replay(enough, log([]api.Record{base(50, "")}, l, said("undo 1 .", "space b .", "end b .")))
	if n != len(l)+3 || len(x.Past().States()) != api.MaxStates || x.Past().State() != 350 {
		t.Errorf("%d of %d, %s", n, len(l), tell(x))
	}
	for i := range l {
		l[i] = base(50, l[i].Text)
	}
	replays(t, enough, log(l, said("axiom n : nat .")), api.MaxStates, "51 in [50 51] marks []", made(t, nats, "axiom n : nat ."))
	var marks []api.Record
	for i := range 21 {
		marks = append(marks, said(fmt.Sprintf("mark m%d .", i))...)
	}
	if x, n := keep.Replay(enough, marks); n != 20 || len(x.Past().Marks()) != 20 {
		t.Errorf("%d, %s", n, tell(x))
	}
	for i := range marks {
		marks[i] = base(3, marks[i].Text)
	}
	replays(t, enough, marks, 21, "3 in [3] marks []", doc.New())
}

func Example() {
	d := doc.New()
	for _, line := range []string{"space q .", "axiom a : Type0 .", "end q ."} {
		x, _ := sent.Parse(line)
		d, _, _ = d.Do(x, 20)
	}
	lines, ok := keep.Base(d)
	fmt.Println(ok, lines[0])
	var log []api.Record
	for _, line := range lines {
		r, err := keep.Read(keep.Bytes(api.Record{Kind: api.RBase, N: 3, Text: line}))
		if err != nil {
			return
		}
		log = append(log, r)
	}
	log = append(log, api.Record{Kind: api.RSentence, Text: "axiom b : q.a ."}, api.Record{Kind: api.RSentence, Text: "axiom b : q.a ."})
	x, done := keep.Replay(20, log)
	fmt.Println(done, x.Past().States())
	_, err := keep.Read("\x02\x03\x10axiom")
	fmt.Println(errors.Is(err, api.ErrShort))
	// Output:
	// true axiom q.a : Type0 .
	// 2 [3 4]
	// true
}
