package session_test

import (
	"fmt"
	"math/rand"
	"slices"
	"testing"

	"vademecum/api"
	"vademecum/disk"
	"vademecum/doc"
	"vademecum/keep"
	"vademecum/sent"
	"vademecum/session"
	"vademecum/talk"
)

// model is a session as the chapter tells it, with a log that it keeps itself: what isn't to be changed it makes anew of that.
type model struct {
	fuel   int
	room   int // bytes of a half
	turn   int
	log    []api.Record
	sure   int // so many of them last
	talk   *talk.Talk
	left   int // Writes until the power goes; below 0: it doesn't
	dead   bool
	may    []api.Record // behind a Compact without power: this log, or that
	either bool
}

func newModel(sectors, fuel int) *model {
	return &model{fuel: fuel, room: (sectors/2 - 1) * api.SectorSize, turn: 1, talk: talk.New(fuel), left: -1}
}

// writes does so many Writes, and tells whether there was power for them.
func (m *model) writes(n int) bool {
	m.dead = m.dead || m.left >= 0 && m.left < n
	if m.left >= 0 {
		m.left -= n
	}
	return !m.dead
}

// add is a journal's Add.
func (m *model) add(r api.Record) api.Errno {
	used := sizeOf(m.turn, 0, bytesOf(m.log...)...)
	size := sizeOf(m.turn, len(m.log), bytesOf(r)...)
	switch {
	case m.dead:
		return api.ErrDead
	case used+size > m.room:
		return api.ErrFull
	case !m.writes((used+size-1)/api.SectorSize - used/api.SectorSize + 1):
		return api.ErrDead
	}
	m.log = append(slices.Clone(m.log), r)
	return api.OK
}

// say is what a line comes to.
func (m *model) say(line string) api.Reply {
	was := m.talk.Past().State()
	r := m.talk.Say(line)
	x, _ := sent.Parse(line)
	if r.Err != 0 || x.Kind == api.SCheck || x.Kind == api.SPrint {
		return r
	}
	record := said(line)[0]
	if x.Kind == api.SCommit {
		record = commit
	}
	if why := m.add(record); why != api.OK {
		m.talk, _ = keep.Replay(m.fuel, m.log)
		return api.Reply{Err: int(why), State: was}
	}
	if x.Kind == api.SCommit {
		m.sure = len(m.log)
	}
	return r
}

func (m *model) compact() api.Errno {
	lines, ok := keep.Base(m.talk.Past().Now())
	if !ok {
		return api.ErrOpen
	}
	state := m.talk.Past().State()
	if len(lines) == 0 {
		lines = []string{""}
	}
	var l []api.Record
	for _, line := range lines {
		if len(line) > 2000 {
			return api.ErrLarge
		}
		l = append(l, base(state, line))
	}
	l = append(l, commit)
	if _, n := keep.Replay(m.fuel, l); n < len(l) {
		return api.ErrFuel
	}
	return m.relog(l)
}

// relog is a journal's Compact.
func (m *model) relog(l []api.Record) api.Errno {
	switch {
	case m.dead:
		return api.ErrDead
	case sizeOf(m.turn+1, 0, bytesOf(l...)...) > m.room:
		return api.ErrFull
	case !m.writes(m.room/api.SectorSize + 1):
		m.may, m.either = l, true
		return api.ErrDead
	}
	m.turn++
	m.log, m.sure = l, len(l)
	m.talk, _ = keep.Replay(m.fuel, l)
	return api.OK
}

// recover is Recover with some fuel, with the records that were left, of which so many are sure.
func (m *model) recover(fuel int, left []api.Record, turn, sure int) api.Errno {
	m.fuel, m.log, m.turn, m.dead, m.left, m.may, m.either = fuel, left, turn, false, -1, nil, false
	m.sure = sure
	x, done := keep.Replay(fuel, left)
	if done < len(left) {
		if why := m.relog(left[:done]); why != api.OK {
			return why
		}
	}
	m.talk = x
	return api.OK
}

// allows tells whether these records may be there behind a crash.
func (m *model) allows(l []string) bool {
	all := bytesOf(m.log...)
	return len(l) >= m.sure && len(l) <= len(all) && slices.Equal(l, all[:len(l)]) || m.either && slices.Equal(l, bytesOf(m.may...))
}

// pair is a session with its model.
type pair struct {
	t    *testing.T
	s    *session.Session
	m    *model
	k    *maker
	what string
	seen map[string]int
}

func newPair(t *testing.T, seed int64, sectors, fuel int, seen map[string]int) *pair {
	p := &pair{t: t, s: startedWith(t, sectors, fuel), m: newModel(sectors, fuel), what: fmt.Sprint("seed ", seed), seen: seen}
	p.k = &maker{r: rand.New(rand.NewSource(seed)), p: p.m.talk.Past()}
	return p
}

// same fails the test where the session isn't the model.
func (p *pair) same() {
	p.t.Helper()
	want := fmt.Sprintf("%d records, %s", len(p.m.log), tellTalk(p.m.talk))
	if tell(p.s) != want || !doc.Same(p.s.Talk().Past().Now(), p.m.talk.Past().Now()) {
		p.t.Fatalf("%s: %s; want %s", p.what, tell(p.s), want)
	}
	if !p.m.dead {
		if got := logOf(p.t, p.s.Disk()); !slices.Equal(got, bytesOf(p.m.log...)) {
			p.t.Fatalf("%s: %.600q; want %.600q", p.what, got, bytesOf(p.m.log...))
		}
	}
	p.k.p = p.m.talk.Past()
}

func (p *pair) say(line string) {
	p.t.Helper()
	got, want := p.s.Say(line), p.m.say(line)
	if got != want {
		p.t.Fatalf("%s: %.200q: %v; want %v", p.what, line, got, want)
	}
	p.seen[fmt.Sprint("say ", got.Err)]++
	if line == "commit ." && got.Err == 0 && p.s.Disk().Loose() != 0 {
		p.t.Fatalf("%s: loose behind a commit", p.what)
	}
}

func (p *pair) compact() {
	p.t.Helper()
	want := p.m.compact()
	err := p.s.Compact()
	if want == api.OK && err != nil || want != api.OK && !isErrno(err, want) {
		p.t.Fatalf("%s: compact: %v; want %v", p.what, err, want)
	}
	p.seen[fmt.Sprint("compact ", int(want))]++
}

// crash takes the power away, or not, and recovers, with some fuel.
func (p *pair) crash(fuel int) {
	p.t.Helper()
	d := p.s.Disk()
	crashes := p.m.dead || p.k.oneIn(2)
	if crashes {
		keep, torn := p.k.crashed(d.Loose())
		d.Crash(keep, torn)
		p.seen["crash"]++
	}
	d.Cut(-1)
	// What is there is asked of a disk that is read alone: Open may have to clean behind the records.
	l, turn := leftOn(p.t, d)
	if !p.m.allows(l) {
		p.t.Fatalf("%s: left %.600q; of %.600q %d are sure", p.what, l, bytesOf(p.m.log...), p.m.sure)
	}
	was, sure := p.m.log, p.m.sure
	if p.m.either && slices.Equal(l, bytesOf(p.m.may...)) {
		was = p.m.may
	}
	if crashes {
		sure = len(l) // nothing that is loose is left
	}
	want := p.m.recover(fuel, was[:len(l)], turn, sure)
	s, err := session.Recover(d, fuel)
	p.seen[fmt.Sprint("recover ", int(want))]++
	if want != api.OK {
		if s != nil || !isErrno(err, want) {
			p.t.Fatalf("%s: recover: %v; want %v", p.what, err, want)
		}
		// With all the fuel it is there yet.
		if want := p.m.recover(api.MaxFuel, was[:len(l)], turn, sure); want != api.OK {
			p.t.Fatalf("%s: %v", p.what, want)
		}
		s, err = session.Recover(d, api.MaxFuel)
	}
	if err != nil || s.Disk() != d {
		p.t.Fatalf("%s: recover: %v", p.what, err)
	}
	if len(p.m.log) < len(l) {
		p.seen["undone"]++
	}
	p.s = s
	p.same()
}

// doOne does one thing to both.
func (p *pair) doOne(fuel int, breaks bool) {
	p.t.Helper()
	n := p.k.r.Intn(40)
	switch {
	case n == 0:
		p.compact()
	case n == 1 && breaks && !p.m.dead:
		cut := p.k.r.Intn(12)
		if p.k.oneIn(3) {
			cut = p.k.r.Intn(p.m.room/api.SectorSize + 4)
		}
		p.s.Disk().Cut(cut)
		p.m.left = cut
	case n == 2 && breaks || p.m.dead && p.k.oneIn(4):
		if p.k.oneIn(6) {
			fuel = p.k.r.Intn(60)
		}
		p.crash(fuel)
	default:
		p.say(p.k.line())
	}
	p.same()
}

// leftOn tells what records a crash left on a disk, and their turn, without a Write.
func leftOn(t *testing.T, d *disk.Disk) ([]string, int) {
	t.Helper()
	turn := turnOf(t, d)
	half := (d.Len() - 2) / 2
	at := 2
	for i := range 2 {
		b, _ := d.Read(i)
		if h, ok := halfOf(b, turn); ok {
			at += h * half
		}
	}
	all := ""
	for i := range half {
		b, err := d.Read(at + i)
		if err != nil {
			t.Fatal(err)
		}
		all += b
	}
	return unwrapped(turn, all), turn
}

// Random sessions without crashes do what the chapter says, word by word.
func TestP26_2Model(t *testing.T) {
	seen := map[string]int{}
	for seed := range int64(250) {
		sectors := []int{5, 9, 16, 40, 120, 400}[seed%6]
		fuel := []int{enough, enough, 1 << 40, 30, enough}[seed%5]
		p := newPair(t, seed, sectors, fuel, seen)
		for range 90 {
			p.doOne(fuel, false)
		}
	}
	for _, what := range []string{"say 0", "say 14", "say 10", "say 15", "say 19", "say 22", "compact 0", "compact 14", "compact 21"} {
		if seen[what] < 30 {
			t.Errorf("%s: %d times; %v", what, seen[what], seen)
		}
	}
}

// Likewise with crashes.
func TestP26_3Model(t *testing.T) {
	seen := map[string]int{}
	for seed := range int64(400) {
		sectors := []int{9, 16, 40, 120}[seed%4]
		fuel := []int{enough, enough, 40}[seed%3]
		p := newPair(t, seed, sectors, fuel, seen)
		for range 120 {
			p.doOne(fuel, true)
		}
	}
	for _, what := range []string{"say 0", "say 14", "say 25", "compact 0", "compact 25", "crash", "recover 0", "undone"} {
		if seen[what] < 50 {
			t.Errorf("%s: %d times; %v", what, seen[what], seen)
		}
	}
}
