package journal_test

import (
	"errors"
	"fmt"
	"math/rand"
	"slices"
	"strings"
	"testing"

	"vademecum/api"
	"vademecum/disk"
	"vademecum/frame"
	"vademecum/journal"
)

// model: the journal told another way, on a disk of its own: it keeps the records, and makes of all of them anew what the half should be. Each call is a row of steps, which are told ahead of the first.
type model struct {
	d       *disk.Disk
	at      int // the superblock that counts
	turn    int
	half    int
	records []string
	dead    bool
}

// step: a Write, or at -1 a Flush.
type step struct {
	at int
	b  string
}

var flush = step{at: -1}

// run does steps up to the first that errs.
func run(d *disk.Disk, steps []step) api.Errno {
	for _, s := range steps {
		err := error(nil)
		if s.at < 0 {
			err = d.Flush()
		} else {
			err = d.Write(s.at, s.b)
		}
		if err != nil {
			return api.ErrDead
		}
	}
	return api.OK
}

func (m *model) run(steps []step) api.Errno {
	e := run(m.d, steps)
	m.dead = e != api.OK
	return e
}

// modelHalf tells the first sector of a half, and how many it has.
func modelHalf(d *disk.Disk, half int) (int, int) {
	n := d.Len()/2 - 1
	return 2 + half*n, n
}

// modelScrub tells the Writes that make a half what it should be, of its sectors from some on.
func modelScrub(d *disk.Disk, half, from int, want string) []step {
	var steps []step
	at, n := modelHalf(d, half)
	for i := from; i < n; i++ {
		b := filled(want, n)[i*size : (i+1)*size]
		if is, err := d.Read(at + i); err != nil || is != b {
			steps = append(steps, step{at + i, b})
		}
	}
	return steps
}

func modelFormat(d *disk.Disk) api.Errno {
	if d.Len() < 4 {
		return api.ErrFull
	}
	if _, err := d.Read(0); err != nil {
		return api.ErrDead
	}
	steps := append([]step{{1, ""}}, modelScrub(d, 0, 0, "")...)
	return run(d, append(steps, flush, step{0, super(1, 0)}, flush))
}

// superblocks: all that a disk of the tests can have, with what they tell.
func superblocks() map[string][2]int {
	all := map[string][2]int{}
	for turn := 1; turn < 60; turn++ {
		for half := range 2 {
			all[filled(super(turn, half), 1)] = [2]int{turn, half}
		}
	}
	return all
}

var known = superblocks()

func modelOpen(d *disk.Disk) (*model, api.Errno) {
	if d.Len() < 4 {
		return nil, api.ErrFull
	}
	m := &model{d: d}
	for at := range 2 {
		b, err := d.Read(at)
		if err != nil {
			return nil, api.ErrDead
		}
		if s := known[b]; s[0] > m.turn {
			m.at, m.turn, m.half = at, s[0], s[1]
		}
	}
	if m.turn == 0 {
		return nil, api.ErrForm
	}
	at, n := modelHalf(d, m.half)
	half := ""
	for i := range n {
		b, _ := d.Read(at + i)
		half += b
	}
	for err := error(nil); err == nil; {
		var r string
		if r, half, err = frame.Open(half, m.turn*1000000+len(m.records)); err == nil {
			m.records = append(m.records, r)
		}
	}
	want := row(m.turn, m.records...)
	if steps := modelScrub(d, m.half, len(want)/size, want); len(steps) > 0 && m.run(append(steps, flush)) != api.OK {
		return nil, api.ErrDead
	}
	return m, api.OK
}

// refusal tells why records don't come to lie in a half.
func (m *model) refusal(turn int, records, new []string) api.Errno {
	_, n := modelHalf(m.d, 0)
	switch {
	case m.dead:
		return api.ErrDead
	case slices.ContainsFunc(new, func(r string) bool { return len(r) > recordMost }):
		return api.ErrLarge
	case len(row(turn, slices.Concat(records, new)...)) > n*size:
		return api.ErrFull
	}
	return api.OK
}

func (m *model) add(r string) api.Errno {
	if e := m.refusal(m.turn, m.records, []string{r}); e != api.OK {
		return e
	}
	was := len(row(m.turn, m.records...))
	all := append(slices.Clone(m.records), r)
	b := row(m.turn, all...)
	at, n := modelHalf(m.d, m.half)
	var steps []step
	for i := was / size; i*size < len(b); i++ {
		steps = append(steps, step{at + i, filled(b, n)[i*size : (i+1)*size]})
	}
	if e := m.run(steps); e != api.OK {
		return e
	}
	m.records = all
	return api.OK
}

func (m *model) sync() api.Errno {
	if m.dead {
		return api.ErrDead
	}
	return m.run([]step{flush})
}

func (m *model) compact(records []string) api.Errno {
	if e := m.refusal(m.turn+1, nil, records); e != api.OK {
		return e
	}
	at, n := modelHalf(m.d, 1-m.half)
	b := filled(row(m.turn+1, records...), n)
	var steps []step
	for i := range n {
		steps = append(steps, step{at + i, b[i*size : (i+1)*size]})
	}
	if e := m.run(append(steps, flush, step{1 - m.at, super(m.turn+1, 1-m.half)}, flush)); e != api.OK {
		return e
	}
	m.at, m.turn, m.half, m.records = 1-m.at, m.turn+1, 1-m.half, slices.Clone(records)
	return api.OK
}

// pair: the journal and the model, told the same, each on its disk; seen counts the answers.
type pair struct {
	t    *testing.T
	d    *disk.Disk
	j    *journal.Journal
	m    *model
	seen map[string]int
}

func newPair(t *testing.T, sectors int) *pair {
	p := &pair{t: t, d: disk.New(sectors), m: &model{d: disk.New(sectors)}, seen: map[string]int{}}
	p.m.dead, p.j = true, &journal.Journal{}
	return p
}

// same holds an answer, and both disks and journals, against each other.
func (p *pair) same(what string, err error, want api.Errno) {
	p.t.Helper()
	p.seen[fmt.Sprint(what, " ", int(want))]++
	if (err == nil) != (want == api.OK) || err != nil && !errors.Is(err, want) {
		p.t.Fatalf("%s: %v, want %v", what, err, want)
	}
	if p.j.Len() != len(p.m.records) || p.d.Writes() != p.m.d.Writes() || p.d.Loose() != p.m.d.Loose() {
		p.t.Fatalf("%s: len %d, writes %d, loose %d, want %d, %d, %d", what, p.j.Len(), p.d.Writes(), p.d.Loose(), len(p.m.records), p.m.d.Writes(), p.m.d.Loose())
	}
	for at := range p.d.Len() {
		b, err := p.d.Read(at)
		if want, no := p.m.d.Read(at); b != want || (err == nil) != (no == nil) {
			p.t.Fatalf("%s: sector %d: %q, %v, want %q, %v", what, at, b, err, want, no)
		}
	}
}

func (p *pair) open() {
	p.t.Helper()
	j, got, err := journal.Open(p.d)
	m, e := modelOpen(p.m.d)
	if (j == nil) != (m == nil) || m != nil && !slices.Equal(got, m.records) || m == nil && len(got) > 0 {
		p.t.Fatalf("open: %q, %v, want %v", got, err, e)
	}
	if m != nil {
		p.j, p.m = j, m
	}
	p.same("open", err, e)
}

func (p *pair) format() {
	p.t.Helper()
	p.same("format", journal.Format(p.d), modelFormat(p.m.d))
}

func (p *pair) add(r string) {
	p.t.Helper()
	p.same("add", p.j.Add(r), p.m.add(r))
}

func (p *pair) sync() {
	p.t.Helper()
	p.same("sync", p.j.Sync(), p.m.sync())
}

func (p *pair) compact(records []string) {
	p.t.Helper()
	p.same("compact", p.j.Compact(records), p.m.compact(records))
}

func (p *pair) cut(after int) {
	p.d.Cut(after)
	p.m.d.Cut(after)
}

func (p *pair) crash(keep []bool, torn int) {
	p.d.Crash(keep, torn)
	p.m.d.Crash(keep, torn)
}

// randomRecord is short, mostly, and seldom too large.
func randomRecord(r *rand.Rand) string {
	n := []int{0, 1, 5, 20, 56, 57, 64, 100, 150, recordMost, recordMost + 1}[min(r.Intn(40), r.Intn(40), 10)]
	return strings.Repeat(string(rune('a'+r.Intn(26))), n)
}

func randomKeep(r *rand.Rand, loose int) ([]bool, int) {
	keep := make([]bool, r.Intn(loose+2))
	for i := range keep {
		keep[i] = r.Intn(4) > 0
	}
	return keep, r.Intn(loose+2) - 1
}

// doOne does one call at random.
func (p *pair) doOne(r *rand.Rand) {
	p.t.Helper()
	switch n := r.Intn(100); {
	case n < 50:
		p.add(randomRecord(r))
	case n < 60:
		p.sync()
	case n < 70:
		p.open()
	case n < 80:
		var records []string
		for range r.Intn(7) {
			records = append(records, randomRecord(r))
		}
		p.compact(records)
	case n < 82:
		p.format()
	case n < 90:
		p.cut(r.Intn(12) - 1)
	default:
		keep, torn := randomKeep(r, p.d.Loose())
		p.crash(keep, torn)
		// A journal that has seen a crash and wasn't told is used on, at times.
		if r.Intn(4) > 0 {
			p.open()
		}
	}
}

func TestJournalIsTheModels(t *testing.T) {
	seen := map[string]int{}
	for seed := range 600 {
		r := rand.New(rand.NewSource(int64(seed)))
		p := newPair(t, 3+r.Intn(18))
		p.seen = seen
		p.open()
		p.format()
		p.open()
		for range 60 {
			p.doOne(r)
		}
	}
	for _, what := range []string{
		"format 0", "format 14", "format 25", "open 0", "open 10", "open 14", "open 25", "sync 0", "sync 25",
		"add 0", "add 13", "add 14", "add 25", "compact 0", "compact 13", "compact 14", "compact 25",
	} {
		if seen[what] < 10 {
			t.Errorf("%s: only %d times", what, seen[what])
		}
	}
}

// The greatest disk, filled up, compacted and opened.
func TestJournalIsTheModelsOnTheGreatestDisk(t *testing.T) {
	p := newPair(t, api.MaxSectors)
	p.format()
	p.open()
	for range 32 {
		p.add(strings.Repeat("m", recordMost))
	}
	p.sync()
	p.open()
	all := slices.Clone(p.m.records)
	if len(all) != 31 {
		t.Fatalf("%d records", len(all))
	}
	p.compact(slices.Repeat([]string{""}, 999*size/overhead))
	p.add("")
	p.open()
	if p.j.Len() != 7992 {
		t.Errorf("len %d", p.j.Len())
	}
	p.compact(append(all, "one more"))
	p.open()
	if p.j.Len() != 32 {
		t.Errorf("len %d", p.j.Len())
	}
}

// anything is what may lie on a disk: superblocks and records, of few turns, some of them spoilt.
func anything(r *rand.Rand, sectors int) string {
	b := filled(super(r.Intn(4), r.Intn(3)), 1) + filled(super(r.Intn(4), r.Intn(2)), 1)
	at := (sectors/2 - 1) * size
	for range 2 {
		var records []string
		for range r.Intn(6) {
			records = append(records, strings.Repeat("r", r.Intn(60)))
		}
		half := row(1+r.Intn(3), records...) + row(1+r.Intn(3), "a", "b", "c")
		b += filled(half[:min(r.Intn(len(half)+1), at)], at/size)
	}
	x := []byte(b)
	for range r.Intn(3) {
		x[r.Intn(len(x))] ^= byte(1 << r.Intn(8))
	}
	return string(x)
}

func TestOpenIsTheModelsOnAnything(t *testing.T) {
	seen := map[string]int{}
	for seed := range 4000 {
		r := rand.New(rand.NewSource(int64(seed)))
		sectors := 4 + r.Intn(10)
		p := newPair(t, sectors)
		p.seen = seen
		b := anything(r, sectors)
		put(t, p.d, 0, b)
		put(t, p.m.d, 0, b)
		p.open()
		p.add(strings.Repeat("behind", r.Intn(60)))
		p.open()
	}
	for _, what := range []string{"open 0", "open 10", "add 0", "add 14"} {
		if seen[what] < 100 {
			t.Errorf("%s: only %d times", what, seen[what])
		}
	}
}
