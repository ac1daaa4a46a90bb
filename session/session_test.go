package session_test

import (
	"errors"
	"fmt"
	"math"
	"slices"
	"strings"
	"testing"

	"vademecum/api"
	"vademecum/disk"
	"vademecum/doc"
	"vademecum/frame"
	"vademecum/journal"
	"vademecum/keep"
	"vademecum/session"
	"vademecum/talk"
)

const nats = "family nat 0 : Type0 { o : nat ; s : nat -> nat } ."

// toldNats is that family as it is printed.
const toldNats = "family nat 0 : Type0 { o : nat ; s : pi _0 : nat , nat } ."

// enough fuel for whatever is said here, where it isn't about fuel.
const enough = 2000

// startedWith is a new session on a new disk.
func startedWith(t *testing.T, sectors, fuel int) *session.Session {
	t.Helper()
	s, err := session.New(disk.New(sectors), fuel)
	if err != nil || s == nil {
		t.Fatalf("new on %d sectors: %v", sectors, err)
	}
	return s
}

func started(t *testing.T, sectors int) *session.Session {
	t.Helper()
	return startedWith(t, sectors, enough)
}

// recovered is the session that a disk holds.
func recovered(t *testing.T, d *disk.Disk) *session.Session {
	t.Helper()
	s, err := session.Recover(d, enough)
	if err != nil || s == nil || s.Disk() != d {
		t.Fatalf("recover: %v", err)
	}
	return s
}

// tell is all that a session tells but its document, as a text.
func tell(s *session.Session) string {
	return fmt.Sprintf("%d records, %s", s.Len(), tellTalk(s.Talk()))
}

func tellTalk(x *talk.Talk) string {
	p := x.Past()
	return fmt.Sprintf("%d in %v marks %q", p.State(), p.States(), p.Marks())
}

// said are the records of sentences.
func said(lines ...string) []api.Record {
	var l []api.Record
	for _, line := range lines {
		l = append(l, api.Record{Kind: api.RSentence, Text: line})
	}
	return l
}

// base is a record of a base.
func base(n int, text string) api.Record { return api.Record{Kind: api.RBase, N: n, Text: text} }

// commit is a record of a commit.
var commit = api.Record{Kind: api.RCommit}

// bytesOf are the bytes of records.
func bytesOf(l ...api.Record) []string {
	var b []string
	for _, r := range l {
		b = append(b, keep.Bytes(r))
	}
	return b
}

// logOf are the records that lie on a disk.
func logOf(t *testing.T, d *disk.Disk) []string {
	t.Helper()
	was := d.Writes()
	_, l, err := journal.Open(d)
	if err != nil || d.Writes() != was {
		t.Fatalf("no log that ends with its last record: %v, %d writes", err, d.Writes()-was)
	}
	return l
}

// logs fails the test where other records lie on a session's disk.
func logs(t *testing.T, s *session.Session, want ...api.Record) {
	t.Helper()
	if got := logOf(t, s.Disk()); !slices.Equal(got, bytesOf(want...)) || s.Len() != len(want) {
		t.Errorf("%d records, %.400q; want %.400q", s.Len(), got, bytesOf(want...))
	}
}

// holds fails the test where a session tells another thing, or its document isn't what these lines make.
func holds(t *testing.T, s *session.Session, want string, lines ...string) {
	t.Helper()
	if tell(s) != want {
		t.Errorf("%s; want %s", tell(s), want)
	}
	x := talk.New(api.MaxFuel)
	for _, line := range lines {
		if r := x.Say(line); r.Err != 0 {
			t.Fatalf("%s: %v", line, r)
		}
	}
	if !doc.Same(s.Talk().Past().Now(), x.Past().Now()) {
		t.Errorf("%s: another document", want)
	}
}

// says says lines that must be accepted.
func says(t *testing.T, s *session.Session, lines ...string) *session.Session {
	t.Helper()
	for _, line := range lines {
		if r := s.Say(line); r.Err != 0 || r.State != s.Talk().Past().State() || r.Text != "" {
			t.Fatalf("%.100q: %v; now %.200s", line, r, tell(s))
		}
	}
	return s
}

// answers fails the test where a session answers otherwise.
func answers(t *testing.T, s *session.Session, line string, state int, text string) {
	t.Helper()
	if got, want := s.Say(line), (api.Reply{State: state, Text: text}); got != want {
		t.Errorf("%.100q: %v; want %v", line, got, want)
	}
}

// stays fails the test where a call changes anything of a session, or, if the power stays, of its disk.
func stays(t *testing.T, s *session.Session, what string, call func()) {
	t.Helper()
	x, d := s.Talk(), s.Disk()
	told, now, writes, loose := tell(s), x.Past().Now(), d.Writes(), d.Loose()
	dead := hasNoPower(d)
	call()
	if s.Talk() != x || s.Disk() != d || tell(s) != told || !doc.Same(x.Past().Now(), now) {
		t.Errorf("%s: behind it %s; ahead %s", what, tell(s), told)
	}
	if d.Writes() != writes || d.Loose() != loose && !dead && !hasNoPower(d) {
		t.Errorf("%s: %d writes, %d loose; ahead %d, %d", what, d.Writes(), d.Loose(), writes, loose)
	}
}

func hasNoPower(d *disk.Disk) bool {
	_, err := d.Read(0)
	return errors.Is(err, api.ErrDead)
}

// refuses says lines that must be refused with an error, each of which changes nothing.
func refuses(t *testing.T, s *session.Session, want api.Errno, lines ...string) {
	t.Helper()
	for _, line := range lines {
		stays(t, s, line, func() {
			if got := s.Say(line); got != (api.Reply{Err: int(want), State: s.Talk().Past().State()}) {
				t.Errorf("%.100q: %v; want %v", line, got, want)
			}
		})
	}
}

// isError fails the test where an error isn't the one of that number.
func isError(t *testing.T, what string, err error, want api.Errno) {
	t.Helper()
	if !isErrno(err, want) {
		t.Errorf("%s: %v; want %v", what, err, want)
		return
	}
	if !strings.Contains(err.Error(), want.Error()) {
		t.Errorf("%s: %q doesn't tell the number", what, err.Error())
	}
}

// isErrno tells whether an error is the one of that number.
func isErrno(err error, want api.Errno) bool {
	var n api.Errno
	return errors.As(err, &n) && n == want && errors.Is(err, want)
}

// notCompacted fails the test where a session is compacted, or refuses that otherwise, or it changes anything.
func notCompacted(t *testing.T, s *session.Session, what string, want api.Errno) {
	t.Helper()
	stays(t, s, what, func() { isError(t, what, s.Compact(), want) })
}

// compacted compacts a session.
func compacted(t *testing.T, s *session.Session) {
	t.Helper()
	if err := s.Compact(); err != nil {
		t.Fatalf("compact: %v; %s", err, tell(s))
	}
}

// turnOf is the turn of the log on a disk.
func turnOf(t *testing.T, d *disk.Disk) int {
	t.Helper()
	greatest := 0
	for at := range 2 {
		b, err := d.Read(at)
		if err != nil {
			t.Fatal(err)
		}
		for turn := 1; turn < 400; turn++ {
			if _, _, err := frame.Open(b, turn); err == nil {
				greatest = max(greatest, turn)
			}
		}
	}
	return greatest
}

// sizeOf is how many bytes records have on a disk, the first one being the n-th of its turn.
func sizeOf(turn, n int, l ...string) int {
	size := 0
	for i, b := range l {
		size += len(frame.Wrap(turn*1000000+n+i, b))
	}
	return size
}

// roomOf is how many bytes the log on a disk may have.
func roomOf(d *disk.Disk) int { return (d.Len() - 2) / 2 * api.SectorSize }

// halfOf is the half that a superblock of some turn names.
func halfOf(super string, turn int) (int, bool) {
	text, _, err := frame.Open(super, turn)
	return strings.Compare(text, "\x00"), err == nil
}

// unwrapped are the records that can be read at the front of a half.
func unwrapped(turn int, all string) []string {
	var l []string
	for {
		r, rest, err := frame.Open(all, turn*1000000+len(l))
		if err != nil {
			return l
		}
		l, all = append(l, r), rest
	}
}

// left is how many bytes of room there are yet.
func left(t *testing.T, s *session.Session) int {
	t.Helper()
	return roomOf(s.Disk()) - sizeOf(turnOf(t, s.Disk()), 0, logOf(t, s.Disk())...)
}

// leaves says marks, with blanks behind them, until just so much room is left.
func leaves(t *testing.T, s *session.Session, room int) *session.Session {
	t.Helper()
	line := func(n int) string { return "mark full ." + strings.Repeat(" ", n) }
	for left(t, s) > room+1000 {
		says(t, s, line(900))
	}
	for left(t, s) > room {
		turn, done := turnOf(t, s.Disk()), false
		for n := 1000; n >= 0 && !done; n-- {
			if sizeOf(turn, s.Len(), bytesOf(said(line(n))...)...) == left(t, s)-room {
				says(t, s, line(n))
				done = true
			}
		}
		if !done {
			says(t, s, line(0))
		}
	}
	if left(t, s) != room {
		t.Fatalf("%d bytes are left, not %d", left(t, s), room)
	}
	return s
}

// laid is a disk with a log of these records, whatever they are.
func laid(t *testing.T, sectors int, l ...string) *disk.Disk {
	t.Helper()
	d := disk.New(sectors)
	if err := journal.Format(d); err != nil {
		t.Fatal(err)
	}
	j, _, err := journal.Open(d)
	if err != nil {
		t.Fatal(err)
	}
	for _, b := range l {
		if err := j.Add(b); err != nil {
			t.Fatal(err)
		}
	}
	if err := j.Sync(); err != nil {
		t.Fatal(err)
	}
	return d
}

// isRefused fails the test where a session was made beside an error, or the error is of another number.
func isRefused(t *testing.T, what string, s *session.Session, err error, want api.Errno) {
	t.Helper()
	if s != nil {
		t.Errorf("%s: a session beside %v", what, err)
	}
	isError(t, what, err, want)
}

func TestP26_1New(t *testing.T) {
	for n := -1; n < 4; n++ {
		s, err := session.New(disk.New(n), enough)
		isRefused(t, "new", s, err, api.ErrFull)
	}
	for n := 4; n < 12; n++ {
		d := disk.New(n)
		s, err := session.New(d, enough)
		if err != nil || s.Disk() != d || d.Loose() != 0 {
			t.Fatalf("%d sectors: %v", n, err)
		}
		holds(t, s, "0 records, 0 in [0] marks []")
		logs(t, s)
		d.Crash(nil, -1)
		holds(t, recovered(t, d), "0 records, 0 in [0] marks []")
	}
}

// Whatever lay there goes.
func TestP26_1NewOnAnother(t *testing.T) {
	s := says(t, started(t, 30), nats, "mark m .", "commit .")
	d := s.Disk()
	again, err := session.New(d, 3)
	if err != nil {
		t.Fatal(err)
	}
	holds(t, again, "0 records, 0 in [0] marks []")
	logs(t, again)
	d.Crash(nil, -1)
	holds(t, recovered(t, d), "0 records, 0 in [0] marks []")
	// Nor is anything of the other half there.
	compacted(t, says(t, recovered(t, d), nats))
	again, err = session.New(d, enough)
	if err != nil {
		t.Fatal(err)
	}
	says(t, again, "axiom a : Type0 .", "commit .")
	d.Crash(nil, -1)
	holds(t, recovered(t, d), "2 records, 1 in [0 1] marks []", "axiom a : Type0 .")
}

func TestP26_1NewWithoutPower(t *testing.T) {
	whole := says(t, started(t, 30), nats, "commit .").Disk()
	was := whole.Writes()
	if _, err := session.New(whole, enough); err != nil {
		t.Fatal(err)
	}
	for cut := range whole.Writes() - was {
		d := says(t, started(t, 30), nats, "commit .").Disk()
		d.Cut(cut)
		s, err := session.New(d, enough)
		isRefused(t, fmt.Sprint("cut ", cut), s, err, api.ErrDead)
		s, err = session.New(d, enough)
		isRefused(t, fmt.Sprint("without power, cut ", cut), s, err, api.ErrDead)
		d.Crash(nil, -1)
		if _, err := session.New(d, enough); err != nil {
			t.Errorf("cut %d: behind a crash: %v", cut, err)
		}
	}
	d := disk.New(30)
	d.Cut(2) // sectors 1 and 0
	if _, err := session.New(d, enough); err != nil {
		t.Errorf("with power for what is written: %v", err)
	}
}

// Each sentence has this fuel, held; also what is recovered, and what is said behind it.
func TestP26_1Fuel(t *testing.T) {
	lines := []string{
		nats,
		"def add : nat -> nat -> nat := fun m : nat => nat.rec@0 ( fun n : nat => nat ) m ( fun n : nat => fun k : nat => s k ) .",
	}
	// costly is a sentence that asks a whole lot.
	costly := func(n int) string {
		return "check " + strings.Repeat("( fun f : nat -> nat => fun x : nat => f ( f x ) ) ( ", n) + "add ( s o )" + strings.Repeat(" )", n) + " o ."
	}
	for _, fuel := range []int{math.MinInt, -1, 0, 1, 7, 60, 500, 19999, 20000, 20001, 1 << 40, math.MaxInt} {
		s := startedWith(t, 60, fuel)
		x := talk.New(fuel)
		for _, line := range slices.Concat(lines, []string{"space a .", "axiom b : Type0 .", costly(1), costly(20)}) {
			if got, want := s.Say(line), x.Say(line); got != want {
				t.Errorf("fuel %d: %q: %v; want %v", fuel, line, got, want)
			}
		}
		says(t, s, "commit .")
		again, err := session.Recover(s.Disk(), fuel)
		if err != nil || tell(again) != tell(s) || tellTalk(again.Talk()) != tellTalk(x) || !doc.Same(again.Talk().Past().Now(), x.Past().Now()) {
			t.Fatalf("fuel %d: recovered %s, %v; was %s", fuel, tell(again), err, tell(s))
		}
		for _, line := range []string{costly(2), "axiom c : nat .", "axiom d : Type1 ."} {
			if got, want := again.Say(line), x.Say(line); got != want {
				t.Errorf("fuel %d, recovered: %q: %v; want %v", fuel, line, got, want)
			}
		}
	}
}

// What can be read and done is there, and nothing else stays.
func TestP26_1Recover(t *testing.T) {
	a, b := said("axiom a : Type0 .")[0], said("axiom b : a .")[0]
	bad, long := said("axiom c : zz .")[0], said(strings.Repeat(" ", api.MaxLine))[0]
	for i, c := range []struct {
		log  []string
		done int
		want string
	}{
		{nil, 0, "0 in [0] marks []"},
		{bytesOf(commit), 1, "0 in [0] marks []"},
		{bytesOf(a, b, commit), 3, "2 in [0 1 2] marks []"},
		{bytesOf(append(said("mark m .", "axiom a : Type0 .", "mark n .", "undo 1 ."), a)...), 5, `2 in [0 2] marks ["m" "n"]`},
		{bytesOf(base(7, a.Text), base(7, b.Text), commit, said("space q .")[0]), 4, "8 in [7 8] marks []"},
		{bytesOf(base(3, "")), 1, "3 in [3] marks []"},
		// What isn't logged may stand in a log all the same.
		{bytesOf(said("commit .", "check Type0 .", "axiom a : Type0 .", "print a .")...), 4, "1 in [0 1] marks []"},
		// Some that can't be done.
		{bytesOf(bad), 0, "0 in [0] marks []"},
		{bytesOf(bad, a, commit), 0, "0 in [0] marks []"},
		{bytesOf(a, bad, b, commit), 1, "1 in [0 1] marks []"},
		{bytesOf(a, b, bad), 2, "2 in [0 1 2] marks []"},
		{bytesOf(a, long, b), 1, "1 in [0 1] marks []"},
		{bytesOf(a, base(7, b.Text), b), 1, "1 in [0 1] marks []"},
		{bytesOf(base(7, a.Text), base(7, bad.Text), base(7, b.Text), commit), 1, "7 in [7] marks []"},
		{bytesOf(base(7, a.Text), commit, base(8, b.Text)), 2, "7 in [7] marks []"},
		{bytesOf(a, a, b), 1, "1 in [0 1] marks []"},
		{bytesOf(a, said("undo 2 .")[0], b), 1, "1 in [0 1] marks []"},
		// Some that can't be read.
		{[]string{""}, 0, "0 in [0] marks []"},
		{[]string{"no record"}, 0, "0 in [0] marks []"},
		{append([]string{"\x04\x00\x00"}, bytesOf(a, b)...), 0, "0 in [0] marks []"},
		{append(bytesOf(a), "", keep.Bytes(b)), 1, "1 in [0 1] marks []"},
		{append(bytesOf(a, b, commit), keep.Bytes(commit)+"\x00"), 3, "2 in [0 1 2] marks []"},
		{append(bytesOf(a), keep.Bytes(b)[:5], keep.Bytes(b)), 1, "1 in [0 1] marks []"},
		// Some of both.
		{append(bytesOf(a, bad, b), "", keep.Bytes(b)), 1, "1 in [0 1] marks []"},
		{append(bytesOf(a), "", keep.Bytes(bad)), 1, "1 in [0 1] marks []"},
	} {
		d := laid(t, 120, c.log...)
		writes := d.Writes()
		s, err := session.Recover(d, enough)
		if err != nil || s.Disk() != d || tellTalk(s.Talk()) != c.want || s.Len() != c.done {
			t.Errorf("row %d: %s, %v; want %d records, %s", i, tell(s), err, c.done, c.want)
			continue
		}
		if c.done == len(c.log) && (d.Writes() != writes || turnOf(t, d) != 1) {
			t.Errorf("row %d: nothing had to be written", i)
		}
		if c.done < len(c.log) && (turnOf(t, d) != 2 || d.Writes() != writes+60) {
			t.Errorf("row %d: not compacted", i)
		}
		if got := logOf(t, d); !slices.Equal(got, c.log[:c.done]) || d.Loose() != 0 {
			t.Errorf("row %d: then %q", i, got)
		}
		// It lasts, and what is said next lies behind it.
		d.Crash(nil, -1)
		says(t, recovered(t, d), "axiom z : Type0 .", "commit .")
		d.Crash(nil, -1)
		last := recovered(t, d)
		if got := logOf(t, d); !slices.Equal(got, slices.Concat(c.log[:c.done], bytesOf(said("axiom z : Type0 .")[0], commit))) || last.Len() != c.done+2 {
			t.Errorf("row %d: at last %q", i, got)
		}
	}
}

// With less fuel less of a log is done; then the rest has gone.
func TestP26_1RecoverWithLessFuel(t *testing.T) {
	s := says(t, started(t, 60), "axiom a : Type0 .", nats, "axiom b : nat .", "commit .")
	less, err := session.Recover(s.Disk(), 2)
	if err != nil {
		t.Fatal(err)
	}
	holds(t, less, "1 records, 1 in [0 1] marks []", "axiom a : Type0 .")
	refuses(t, less, api.ErrFuel, nats)
	holds(t, recovered(t, s.Disk()), "1 records, 1 in [0 1] marks []", "axiom a : Type0 .")
}

func TestP26_1RecoverRefuses(t *testing.T) {
	for n := range 4 {
		s, err := session.Recover(disk.New(n), enough)
		isRefused(t, "too few sectors", s, err, api.ErrFull)
	}
	s, err := session.Recover(disk.New(30), enough)
	isRefused(t, "no log", s, err, api.ErrForm)
	d := laid(t, 30, bytesOf(said(nats)...)...)
	d.Cut(0)
	if err := d.Write(9, ""); err == nil {
		t.Fatal("there is power")
	}
	s, err = session.Recover(d, enough)
	isRefused(t, "no power", s, err, api.ErrDead)
	d.Crash(nil, -1)
	holds(t, recovered(t, d), "1 records, 1 in [0 1] marks []", nats)
	for at := range 2 {
		if err := d.Write(at, "spoilt"); err != nil {
			t.Fatal(err)
		}
	}
	s, err = session.Recover(d, enough)
	isRefused(t, "spoilt", s, err, api.ErrForm)
}

// Where what can't be done can't be taken away, there is no session; the log stays.
func TestP26_1RecoverCantCompact(t *testing.T) {
	for cut := range 15 { // all sectors of a half, a superblock
		d := laid(t, 30, bytesOf(said(nats, "axiom a : zz .")...)...)
		d.Cut(cut)
		s, err := session.Recover(d, enough)
		isRefused(t, fmt.Sprint("cut ", cut), s, err, api.ErrDead)
		d.Crash(slices.Repeat([]bool{true}, 30), -1)
		holds(t, recovered(t, d), "1 records, 1 in [0 1] marks []", nats)
		if turnOf(t, d) != 2 {
			t.Errorf("cut %d: turn %d", cut, turnOf(t, d))
		}
	}
}

// A record has one byte more from turn 3 on: records that have just room there, and one byte too few.
func TestP26_1RecoverNoRoomToCompact(t *testing.T) {
	grown := func(more int) (*disk.Disk, []string) {
		s := started(t, 30)
		compacted(t, s) // turn 2
		for s.Len() < 22 {
			says(t, s, "mark m .")
		}
		leaves(t, s, s.Len()+1-more) // by one record more: as many bytes as there are records
		j, l, err := journal.Open(s.Disk())
		if err != nil || sizeOf(3, 0, l...) != roomOf(s.Disk())+more || j.Add("x") != nil {
			t.Fatalf("%v: %d records have %d bytes", err, len(l), sizeOf(3, 0, l...))
		}
		return s.Disk(), l
	}
	d, l := grown(0)
	s := recovered(t, d)
	if got := logOf(t, d); !slices.Equal(got, l) || turnOf(t, d) != 3 || s.Len() != len(l) {
		t.Errorf("%d records of %d, turn %d", len(got), len(l), turnOf(t, d))
	}
	d, l = grown(1)
	for range 2 {
		writes := d.Writes()
		s, err := session.Recover(d, enough)
		isRefused(t, "no room", s, err, api.ErrFull)
		if got := logOf(t, d); !slices.Equal(got, append(slices.Clone(l), "x")) || d.Writes() != writes {
			t.Errorf("%d records of %d", len(got), len(l)+1)
		}
	}
}

// A record longer than a journal takes, laid by hand.
func TestP26_1RecoverTooLargeToCompact(t *testing.T) {
	for _, c := range []struct {
		n    int
		want api.Errno
	}{{1<<49 - 1, api.OK}, {1 << 49, api.ErrLarge}} {
		line := "axiom a : Type0 ." + strings.Repeat(" ", api.MaxLine-17)
		d := laid(t, 120)
		row := frame.Wrap(1000000, keep.Bytes(base(c.n, line))) + frame.Wrap(1000001, "x")
		for at := 2; row != ""; at++ {
			n := min(len(row), api.SectorSize)
			if err := d.Write(at, row[:n]); err != nil {
				t.Fatal(err)
			}
			row = row[n:]
		}
		s, err := session.Recover(d, enough)
		if c.want != api.OK {
			isRefused(t, "too large", s, err, c.want)
			continue
		}
		if err != nil || s.Len() != 1 || s.Talk().Past().State() != c.n {
			t.Errorf("%s: %v", tell(s), err)
		}
	}
}

// Each Kind of sentence is answered as a talk does, and logged as it was said, if it changes something.
func TestP26_2Say(t *testing.T) {
	s := started(t, 100)
	x := talk.New(enough)
	var log []api.Record
	for i, c := range []struct {
		line   string
		logged bool
	}{
		{" family nat 0:Type0{o:nat;s:nat->nat}.\t\r\n ", true}, {"axiom n : nat .", true}, {"axiom n : nat .", false}, {"def m:nat:=s n.", true}, {"def k : nat := nat .", false},
		{"check  s n .", false}, {"print m .", false}, {"print n .", false}, {"check zz .", false}, {"print zz .", false},
		{"mark here .", true}, {"mark here .", true}, {"mark 1 .", false}, {"space a .", true}, {"section b .", true}, {"var A : Type0 .", true}, {"var B : zz .", false},
		{"def id : A -> A := fun x : A => x .", true}, {"end a .", false}, {"end b .", true}, {"restore zz .", false}, {"undo 99 .", false}, {"undo 0 .", false}, {"undo 2 .", true},
		{"back 99 .", false}, {"back 3 .", true}, {"back 3 .", true}, {"restore here .", true}, {"", false}, {"nonsense", false}, {strings.Repeat(" ", 2001), false}, {"undo 1.", true},
		{"axiom  p\n:\nnat .", true}, {"check id .", false}, {"mark end.", true}, {"mark end . " + strings.Repeat(" ", 1989), true},
	} {
		got, want := s.Say(c.line), x.Say(c.line)
		if got != want {
			t.Errorf("row %d: %v; want %v", i, got, want)
		}
		if c.logged {
			log = append(log, said(c.line)...)
		}
		logs(t, s, log...)
		if tellTalk(s.Talk()) != tellTalk(x) || !doc.Same(s.Talk().Past().Now(), x.Past().Now()) {
			t.Errorf("row %d: %s; want %s", i, tell(s), tellTalk(x))
		}
	}
	answers(t, s, "check s n .", 9, "nat")
	answers(t, s, "commit .", 9, "")
	s.Disk().Crash(nil, -1)
	if again := recovered(t, s.Disk()); tell(again) != tell(s) {
		t.Errorf("recovered %s; was %s", tell(again), tell(s))
	}
}

// A sentence's answer doesn't wait for the disk; a commit's does.
func TestP26_2Commit(t *testing.T) {
	s := started(t, 40)
	d := s.Disk()
	for i, line := range []string{nats, "axiom a : nat .", "mark m .", "undo 1 ."} {
		loose := d.Loose()
		says(t, s, line)
		if d.Loose() <= loose || s.Len() != i+1 {
			t.Errorf("%q: %d loose, %d ahead", line, d.Loose(), loose)
		}
	}
	loose := d.Loose()
	answers(t, s, "check o .", 1, "nat")
	if d.Loose() != loose {
		t.Errorf("%d loose; %d ahead", d.Loose(), loose)
	}
	answers(t, s, "commit .", 1, "")
	if d.Loose() != 0 {
		t.Errorf("%d loose behind a commit", d.Loose())
	}
	answers(t, s, " commit.", 1, "")
	logs(t, s, append(said(nats, "axiom a : nat .", "mark m .", "undo 1 ."), commit, commit)...)
	says(t, s, "axiom b : nat .", "mark n .")
	d.Crash(nil, -1)
	s = recovered(t, d)
	holds(t, s, `6 records, 1 in [0 1] marks ["m"]`, nats)
	refuses(t, s, api.ErrState, "restore n .", "restore m .", "back 2 .")
	answers(t, s, "axiom b : nat .", 3, "")
}

func TestP26_3Example(t *testing.T) {
	d := disk.New(20)
	s, err := session.New(d, enough)
	if err != nil {
		t.Fatal(err)
	}
	says(t, s, "axiom a : Type0 .", "commit .")
	d.Crash(nil, -1)
	s, err = session.Recover(d, enough)
	if err != nil {
		t.Fatal(err)
	}
	answers(t, s, "print a .", 1, "axiom a : Type0 .")
}

// To the last byte of the half.
func TestP26_2NoRoom(t *testing.T) {
	for _, line := range []string{"undo 1 .", "mark n .", "axiom b : nat .", "family f 0 : Type0 { c : f ; d : f -> f } .", "space a ." + strings.Repeat(" ", 500)} {
		size := sizeOf(1, 9, bytesOf(said(line)...)...)
		for _, sectors := range []int{6, 7, 30} {
			if roomOf(disk.New(sectors)) < size+100 {
				continue
			}
			s := leaves(t, says(t, started(t, sectors), nats), size-1)
			refuses(t, s, api.ErrFull, line, line)
			s = leaves(t, says(t, started(t, sectors), nats), size)
			says(t, s, line)
			if left(t, s) != 0 {
				t.Errorf("%d bytes are left", left(t, s))
			}
			refuses(t, s, api.ErrFull, "mark m .", "commit .")
			again := recovered(t, s.Disk())
			if tell(again) != tell(s) || !doc.Same(again.Talk().Past().Now(), s.Talk().Past().Now()) {
				t.Errorf("recovered %s; was %s", tell(again), tell(s))
			}
		}
	}
}

func TestP26_2NoRoomForACommit(t *testing.T) {
	size := sizeOf(1, 9, bytesOf(commit)...)
	s := leaves(t, says(t, started(t, 8), nats), size-1)
	refuses(t, s, api.ErrFull, "commit .", "commit .")
	if s.Disk().Loose() == 0 {
		t.Error("what isn't committed lasts")
	}
	s = leaves(t, says(t, started(t, 8), nats), size)
	says(t, s, "commit .")
	if s.Disk().Loose() != 0 {
		t.Error("what is committed doesn't last")
	}
}

// middle are the lines that make a state in which each of the changes can be said.
var middle = []string{nats, "mark m .", "axiom gone : nat .", "mark lost .", "undo 1 .", "section q .", "var A : Type0 .", "mark here .", "space x .", "undo 1 ."}

var changes = []string{
	"axiom b : nat .", "def c : nat := o .", "family f 0 : Type0 { g : f } .", "space x .", "section y .", "var B : nat .", "end q .",
	"undo 1 .", "undo 3 .", "back 0 .", "back 1 .", "back 4 .", "mark m .", "mark n .", "mark lost .", "restore m .", "restore here .",
}

// probes are lines that tell what can't be told otherwise: what marks stand for, which number is next.
var probes = []string{"restore lost .", "restore n .", "space z .", "restore here .", "restore m .", "space z .", "print nat .", "undo 2 .", "undo 1 ."}

// isAsIfNever fails the test where a session isn't what it would be if nothing but these lines had been said to it.
func isAsIfNever(t *testing.T, s *session.Session, lines ...string) {
	t.Helper()
	x := talk.New(enough)
	for _, line := range lines {
		if r := x.Say(line); r.Err != 0 {
			t.Fatalf("%s: %v", line, r)
		}
	}
	y := s.Talk()
	if tellTalk(y) != tellTalk(x) || !doc.Same(y.Past().Now(), x.Past().Now()) {
		t.Errorf("%s; without it %s", tellTalk(y), tellTalk(x))
	}
	for _, line := range probes {
		if got, want := y.Say(line), x.Say(line); got != want || !doc.Same(y.Past().Now(), x.Past().Now()) {
			t.Errorf("%q: %v; without it %v", line, got, want)
		}
	}
	if tellTalk(y) != tellTalk(x) {
		t.Errorf("behind the probes %s; without it %s", tellTalk(y), tellTalk(x))
	}
}

// What has no room leaves no trace, of whatever Kind it is.
func TestP26_2NoRoomNoTrace(t *testing.T) {
	for _, l := range [][]string{changes, {"axiom b : nat ."}, {"back 0 ."}, {"mark m ."}, {"undo 3 .", "mark here ."}} {
		s := leaves(t, says(t, started(t, 40), middle...), 10)
		refuses(t, s, api.ErrFull, l...)
		isAsIfNever(t, s, append(slices.Clone(middle), "mark full .")...)
	}
	// Each of them is accepted where there is room.
	for _, line := range changes {
		s := says(t, started(t, 40), middle...)
		says(t, s, line)
		if s.Len() != len(middle)+1 {
			t.Errorf("%q isn't logged", line)
		}
	}
	// What is shorter may have room yet; then it goes on from there.
	s := leaves(t, says(t, started(t, 40), middle...), 59)
	refuses(t, s, api.ErrFull, "def c : nat := ( fun x : nat => s ( s x ) ) ( s ( s o ) ) .")
	says(t, s, "mark m .")
	refuses(t, s, api.ErrFull, "family f 0 : Type0 { g : f } .")
	says(t, s, "undo 1 .")
	refuses(t, s, api.ErrFull, "section q .", "space qqq .")
	logged := slices.Concat(middle, []string{"mark full .", "mark m .", "undo 1 ."})
	again := recovered(t, s.Disk())
	if tell(again) != tell(s) {
		t.Errorf("recovered %s; was %s", tell(again), tell(s))
	}
	isAsIfNever(t, again, logged...)
	isAsIfNever(t, s, logged...)
}

// Likewise without power, wherever it goes; all that the log has to hold is refused from then on.
func TestP26_2NoPowerNoTrace(t *testing.T) {
	for _, first := range changes {
		line := first + strings.Repeat(" ", 150) // it lies on three sectors at least
		for cut := range 3 {
			s := says(t, started(t, 40), middle...)
			s.Disk().Cut(cut)
			writes := s.Disk().Writes()
			got := s.Say(line)
			if got != (api.Reply{Err: int(api.ErrDead), State: 4}) || s.Len() != len(middle) || s.Disk().Writes() != writes+cut {
				t.Errorf("%q, cut %d: %v, %s", first, cut, got, tell(s))
			}
			refuses(t, s, api.ErrDead, changes...)
			refuses(t, s, api.ErrDead, "commit .")
			isAsIfNever(t, s, middle...)
		}
	}
}

// What asks nothing of the log goes on without power, and what is refused otherwise is told so.
func TestP26_2WithoutPower(t *testing.T) {
	s := says(t, started(t, 40), nats, "axiom a : nat .", "mark m .")
	s.Disk().Cut(0)
	for range 2 {
		answers(t, s, "check a .", 2, "nat")
		answers(t, s, "print a .", 2, "axiom a : nat .")
		refuses(t, s, api.ErrName, "axiom b : zz .", "check zz .", "axiom a : nat .")
		refuses(t, s, api.ErrForm, "axiom", "commit")
		refuses(t, s, api.ErrLarge, strings.Repeat(" ", 2001))
		refuses(t, s, api.ErrState, "undo 3 .", "restore n .", "back 9 .")
		refuses(t, s, api.ErrOpen, "end q .")
		refuses(t, s, api.ErrDead, "commit .", "axiom b : nat .", "mark m .", "undo 1 .")
	}
	notCompacted(t, s, "without power", api.ErrDead)
	// The session stays so, also when there is power again.
	s.Disk().Crash(slices.Repeat([]bool{true}, 9), -1)
	refuses(t, s, api.ErrDead, "commit .", "axiom b : nat .", "restore m .")
	notCompacted(t, s, "with power again", api.ErrDead)
	answers(t, s, "check a .", 2, "nat")
	again := recovered(t, s.Disk())
	holds(t, again, `3 records, 2 in [0 1 2] marks ["m"]`, nats, "axiom a : nat .")
	says(t, again, "axiom b : nat .", "commit .")
}

func TestP26_2CommitWithoutPower(t *testing.T) {
	s := says(t, started(t, 40), nats)
	s.Disk().Cut(0)
	loose := s.Disk().Loose()
	refuses(t, s, api.ErrDead, "commit .", "commit .")
	if s.Disk().Loose() != loose {
		t.Errorf("%d loose; %d ahead", s.Disk().Loose(), loose)
	}
	s.Disk().Crash(nil, -1)
	holds(t, recovered(t, s.Disk()), "0 records, 0 in [0] marks []")
}

// What the talk has no room for isn't logged.
func TestP26_2NoRoomInTheTalk(t *testing.T) {
	s := started(t, 700)
	for i := range 20 {
		says(t, s, fmt.Sprintf("mark m%d .", i))
	}
	refuses(t, s, api.ErrFull, "mark n .")
	says(t, s, "mark m3 .")
	for range (api.MaxStates - 1) / 2 {
		says(t, s, "space a .", "end a .")
	}
	says(t, s, "space b .")
	refuses(t, s, api.ErrFull, "axiom a : Type0 .", "space c .", "end b .")
	if s.Len() != 320 {
		t.Errorf("%d records", s.Len())
	}
	says(t, s, "undo 299 .", "axiom a : Type0 .", "commit .")
	again := recovered(t, s.Disk())
	if tell(again) != tell(s) || again.Talk().Past().State() != 300 {
		t.Errorf("recovered %s; was %s", tell(again), tell(s))
	}
	isError(t, "no such state", again.Talk().Past().Undo(2), api.ErrState)
}

// The talk and the disk are the session's own ones.
func TestP26_2TalkAndDisk(t *testing.T) {
	d := disk.New(30)
	s, err := session.New(d, enough)
	if err != nil {
		t.Fatal(err)
	}
	x, p := s.Talk(), s.Talk().Past()
	says(t, s, nats, "mark m .")
	if s.Talk() != x || s.Talk().Past() != p || s.Disk() != d || tellTalk(x) != `1 in [0 1] marks ["m"]` || p.State() != 1 {
		t.Errorf("%s: another talk than %s", tell(s), tellTalk(x))
	}
	// What is said to the talk alone is there, but not in the log.
	if r := x.Say("space a ."); r != (api.Reply{State: 2}) {
		t.Error(r)
	}
	answers(t, s, "end a .", 3, "")
	if s.Len() != 3 || tellTalk(x) != `3 in [0 1 2 3] marks ["m"]` {
		t.Errorf("%s", tell(s))
	}
	says(t, s, "undo 2 .")
	compacted(t, s)
	if s.Talk() != x || s.Talk().Past() != p || tellTalk(x) != "1 in [1] marks []" || s.Disk() != d {
		t.Errorf("%s: another talk than %s", tell(s), tellTalk(x))
	}
	d.Cut(0)
	refuses(t, s, api.ErrDead, "mark m .")
	if s.Talk() != x || tellTalk(x) != "1 in [1] marks []" {
		t.Errorf("%s: another talk than %s", tell(s), tellTalk(x))
	}
}

// A session that neither New nor Recover made has no log.
func TestP26_2MadeByNobody(t *testing.T) {
	var s session.Session
	if s.Disk() != nil || s.Len() != 0 || tellTalk(s.Talk()) != "0 in [0] marks []" {
		t.Errorf("%s", tell(&s))
	}
	for _, line := range []string{"space a .", "mark m .", "commit ."} {
		if r := s.Say(line); r != (api.Reply{Err: int(api.ErrDead)}) {
			t.Errorf("%q: %v", line, r)
		}
	}
	if r := s.Say("check Type0 ."); r.Err != int(api.ErrFuel) {
		t.Error(r)
	}
	isError(t, "compact", s.Compact(), api.ErrDead)
}

func TestErrorsTellTheCall(t *testing.T) {
	_, few := session.New(disk.New(3), enough)
	_, none := session.Recover(disk.New(30), enough)
	open := says(t, started(t, 30), "space a .").Compact()
	s := started(t, 30)
	s.Disk().Cut(0)
	dead := s.Compact()
	d := laid(t, 30, "no record")
	d.Cut(0)
	_, unclean := session.Recover(d, enough)
	for want, err := range map[string]error{
		"session: new: no room on the disk: journal: format: error 14":                                          few,
		"session: recover: no log on the disk: journal: open: error 10":                                         none,
		"session: recover: no power since some call, until Recover: journal: compact: disk: write 16: error 25": unclean,
		"session: compact: something is open: error 21":                                                         open,
		"session: compact: no power since some call, until Recover: journal: compact: disk: write 16: error 25": dead,
		"session: compact: no power since some call, until Recover: journal: compact: error 25":                 s.Compact(),
		"session: compact: not all can be said again: error 19":                                                 unsayable(t, 200).Compact(),
		"session: compact: too long a sentence: error 13":                                                       says(t, started(t, 200), nats, longer(api.MaxLine+1)).Compact(),
	} {
		if err == nil || err.Error() != want {
			t.Errorf("%v; want %s", err, want)
		}
	}
}
