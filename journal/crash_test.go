package journal_test

import (
	"errors"
	"math/rand"
	"slices"
	"strings"
	"testing"

	"vademecum/api"
	"vademecum/disk"
	"vademecum/journal"
)

// event: something told to a journal: a record added, or a Sync, or a Compact to records.
type event struct {
	add     string
	sync    bool
	compact []string
}

// may tells what records there may be behind a crash.
type may struct {
	added  []string // a beginning of these
	synced int      // of so many at least
	new    []string // or just these, if compacting
	either bool
}

func (m may) allows(got []string) bool {
	if len(got) >= m.synced && len(got) <= len(m.added) && slices.Equal(got, m.added[:len(got)]) {
		return true
	}
	return m.either && slices.Equal(got, m.new)
}

// told tells a journal events on a new disk, with the power gone at some Write (below 0: never), and what there may be then.
func told(t *testing.T, sectors int, events []event, cut int) (*disk.Disk, may) {
	t.Helper()
	d := formatted(t, sectors)
	j := opens(t, d)
	d.Cut(cut)
	var m may
	for _, e := range events {
		var err error
		switch {
		case e.sync:
			if err = j.Sync(); err == nil {
				m.synced = len(m.added)
			}
		case e.compact != nil:
			if err = j.Compact(e.compact); err == nil {
				m.added, m.synced = slices.Clone(e.compact), len(e.compact)
			} else {
				m.new, m.either = e.compact, true
			}
		default:
			err = j.Add(e.add)
			m.added = append(m.added, e.add)
		}
		if err != nil {
			tells(t, "event", err, api.ErrDead)
			break
		}
	}
	return d, m
}

// recovers opens a disk behind a crash, and holds that its records may be these, that they stay, and that what is added then lasts.
func recovers(t *testing.T, d *disk.Disk, m may, what ...any) {
	t.Helper()
	j, got, err := journal.Open(d)
	if err != nil || !m.allows(got) {
		t.Fatalf("%v: %q, %v, want of %q the first %d, or %q", what, got, err, m.added, m.synced, m.new)
	}
	opens(t, d, got...)
	// of the sizes of what was lost, so that what lay behind it would be in its place
	again := []string{}
	for _, r := range m.added[min(len(got), len(m.added)):] {
		again = append(again, strings.Repeat("+", len(r)))
	}
	again = append(again[:min(len(again), 1)], "")
	adds(t, j, again...)
	tells(t, "sync", j.Sync(), api.OK)
	d.Crash(nil, -1)
	opens(t, d, append(got, again...)...)
}

func keeps(kept, n int) []bool {
	var keep []bool
	for i := range n {
		keep = append(keep, kept>>i&1 == 1)
	}
	return keep
}

func text(n int) event { return event{add: strings.Repeat(string(rune('a'+n%26)), n)} }

var syncs = event{sync: true}

// rows: events of few loose Writes each, for a disk of halves of six sectors.
func rows() [][]event {
	return [][]event{
		{text(1), text(2), text(3)},
		{text(56), text(56), text(56), text(1)},
		{text(1), syncs, text(70), text(5)},
		{text(30), syncs, text(130), text(40), text(0)},
		{text(20), text(40), syncs, text(24), text(24), text(120)},
		{text(0), text(0), text(0), syncs, syncs, text(100), text(100)},
		{text(200), syncs, text(60)},
		{text(300), text(4)},
		{text(9), syncs, {compact: []string{"new", "er"}}},
		{text(9), text(90), {compact: []string{strings.Repeat("n", 200)}}},
		{text(9), syncs, text(8), {compact: []string{}}},
		{text(100), {compact: []string{"n"}}, text(50), text(70)},
		{{compact: []string{"first"}}, text(60), {compact: []string{"second"}}, text(6), syncs, text(60)},
	}
}

// Wherever the power goes, whatever a crash keeps and tears.
func TestP4_3EveryCrash(t *testing.T) {
	const sectors = 14
	for i, events := range rows() {
		whole, _ := told(t, sectors, events, -1)
		for cut := range whole.Writes() {
			d, _ := told(t, sectors, events, cut)
			n := d.Loose()
			for kept := range 1 << n {
				for torn := -1; torn < n; torn++ {
					if torn >= 0 && kept>>torn&1 == 0 {
						continue
					}
					d, m := told(t, sectors, events, cut)
					d.Crash(keeps(kept, n), torn)
					recovers(t, d, m, i, cut, kept, torn)
				}
			}
		}
	}
}

// A crash in recovering changes nothing of what is recovered.
func TestP4_3CrashesInOpen(t *testing.T) {
	r := rand.New(rand.NewSource(43))
	scrubbed := 0
	for n := range 6000 {
		events := rows()[n%len(rows())]
		d, m := told(t, 14, events, -1)
		keep, torn := randomKeep(r, d.Loose())
		d.Crash(keep, torn)
		var first []string
		for again := range 3 {
			d.Cut(r.Intn(4))
			_, got, err := journal.Open(d)
			if err != nil {
				tells(t, "open", err, api.ErrDead)
				scrubbed++
			} else if !m.allows(got) || again > 0 && first != nil && !slices.Equal(got, first) {
				t.Fatalf("%d: %q, behind %q", n, got, first)
			} else {
				first = append([]string{}, got...)
			}
			keep, torn := randomKeep(r, d.Loose())
			d.Crash(keep, torn)
		}
		if first != nil {
			m = may{added: first, synced: len(first)}
		}
		recovers(t, d, m, n)
	}
	if scrubbed < 100 {
		t.Errorf("only %d crashes in open", scrubbed)
	}
}

// A long life of crashes: what was synced is never lost, and nothing lost comes back.
func TestP4_3LongLife(t *testing.T) {
	for seed := range 60 {
		r := rand.New(rand.NewSource(int64(seed)))
		d := formatted(t, 10+r.Intn(30))
		j := opens(t, d)
		m := may{}
		for range 300 {
			var err error
			switch n := r.Intn(20); {
			case n < 10:
				record := strings.Repeat(string(rune('a'+r.Intn(26))), r.Intn(90))
				err = j.Add(record)
				if err == nil || isDead(err) {
					m.added = append(m.added, record)
				}
			case n < 13:
				if err = j.Sync(); err == nil {
					m.synced = len(m.added)
				}
			case n < 15:
				l := slices.Clone(m.added[:r.Intn(len(m.added)+1)])
				if err = j.Compact(l); err == nil {
					m = may{added: l, synced: len(l)}
				} else if isDead(err) {
					m.new, m.either = l, true
				}
			case n < 17:
				d.Cut(r.Intn(10))
			default:
				err = api.ErrDead
			}
			if !isDead(err) {
				continue
			}
			keep, torn := randomKeep(r, d.Loose())
			d.Crash(keep, torn)
			var got []string
			j, got, err = journal.Open(d)
			if err != nil || !m.allows(got) {
				t.Fatalf("seed %d: %q, %v, want of %q the first %d, or %q", seed, got, err, m.added, m.synced, m.new)
			}
			m = may{added: slices.Clone(got), synced: len(got)}
		}
	}
}

// isDead tells whether the journal is dead behind an answer.
func isDead(err error) bool { return errors.Is(err, api.ErrDead) }
