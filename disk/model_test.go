package disk_test

import (
	"errors"
	"math/rand"
	"strings"
	"testing"

	"vademecum/api"
	"vademecum/disk"
)

// model: the disk told another way: what lasts as texts, and a row of what is loose through which each Read looks.
type model struct {
	lasting []string
	loose   []looseWrite
	writes  int
	left    int // Writes up to the cut; below 0 none comes
	dead    bool
}

type looseWrite struct {
	at int
	b  string
}

func newModel(sectors int) *model {
	m := &model{left: -1}
	for range sectors {
		m.lasting = append(m.lasting, filled(""))
	}
	return m
}

func (m *model) fault(at, size int) api.Errno {
	switch {
	case m.dead:
		return api.ErrDead
	case at < 0 || at >= len(m.lasting):
		return api.ErrFull
	case size > api.SectorSize:
		return api.ErrLarge
	}
	return api.OK
}

func (m *model) write(at int, b string) api.Errno {
	if e := m.fault(at, len(b)); e != api.OK {
		return e
	}
	if m.left == 0 {
		m.dead = true
		return api.ErrDead
	}
	if m.left > 0 {
		m.left--
	}
	m.loose = append(m.loose, looseWrite{at, filled(b)})
	m.writes++
	return api.OK
}

func (m *model) read(at int) (string, api.Errno) {
	if e := m.fault(at, 0); e != api.OK {
		return "", e
	}
	for i := len(m.loose) - 1; i >= 0; i-- {
		if m.loose[i].at == at {
			return m.loose[i].b, api.OK
		}
	}
	return m.lasting[at], api.OK
}

func (m *model) flush() api.Errno {
	if m.dead {
		return api.ErrDead
	}
	for _, w := range m.loose {
		m.lasting[w.at] = w.b
	}
	m.loose = nil
	return api.OK
}

func (m *model) crash(keep []bool, torn int) {
	for i, w := range m.loose {
		if i >= len(keep) || !keep[i] {
			continue
		}
		end := api.SectorSize
		if i == torn {
			end /= 2
		}
		m.lasting[w.at] = w.b[:end] + m.lasting[w.at][end:]
	}
	m.loose, m.left, m.dead = nil, -1, false
}

// same holds an error of the disk against the model's number.
func same(err error, want api.Errno) bool {
	if want == api.OK {
		return err == nil
	}
	return errors.Is(err, want)
}

// agree holds all that can be asked of the disk against the model.
func agree(t *testing.T, d *disk.Disk, m *model, what string) {
	t.Helper()
	counts(t, d, m.writes, len(m.loose))
	for at := -1; at <= len(m.lasting); at++ {
		want, e := m.read(at)
		if got, err := d.Read(at); got != want || !same(err, e) {
			t.Fatalf("%s: read %d: %q, %v, want %q, %v", what, at, got, err, want, e)
		}
	}
}

// Every way to keep and tear every row of a few Writes.
func TestP1_2EveryCrash(t *testing.T) {
	const rows = 4
	for places := range 1 << rows {
		for kept := range 1 << (rows + 1) {
			for torn := -1; torn <= rows; torn++ {
				d, m := disk.New(2), newModel(2)
				var keep []bool
				for i := range rows {
					at, b := places>>i&1, strings.Repeat(string(rune('a'+i)), 20*(i+1)%65)
					mustWrite(t, d, at, b)
					m.write(at, b)
				}
				for i := range rows + 1 {
					keep = append(keep, kept>>i&1 == 1)
				}
				d.Crash(keep, torn)
				m.crash(keep, torn)
				agree(t, d, m, "crash")
			}
		}
	}
}

// step does one call, chosen by r, on both.
func step(t *testing.T, r *rand.Rand, d *disk.Disk, m *model) {
	t.Helper()
	switch r.Intn(12) {
	case 0:
		if e := m.flush(); !same(d.Flush(), e) {
			t.Fatalf("flush: want %v", e)
		}
	case 1:
		after := r.Intn(8) - 2
		d.Cut(after)
		m.left = max(after, -1)
	case 2:
		keep := make([]bool, r.Intn(8))
		for i := range keep {
			keep[i] = r.Intn(2) == 0
		}
		torn := r.Intn(8) - 2
		d.Crash(keep, torn)
		m.crash(keep, torn)
	default:
		at, b := r.Intn(len(m.lasting)+2)-1, strings.Repeat(string(rune('a'+r.Intn(26))), r.Intn(api.SectorSize+3))
		if e, err := m.write(at, b), d.Write(at, b); !same(err, e) {
			t.Fatalf("write %d of %d bytes: %v, want %v", at, len(b), err, e)
		}
	}
}

func TestP1_1P1_2P1_3AgainstTheModel(t *testing.T) {
	for seed := range int64(300) {
		r := rand.New(rand.NewSource(seed))
		n := 1 + r.Intn(4)
		d, m := disk.New(n), newModel(n)
		for range 150 {
			step(t, r, d, m)
			agree(t, d, m, "step")
		}
	}
}
