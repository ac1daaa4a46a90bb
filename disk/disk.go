// Package disk: sectors that may tear: see doc/01-disk.md.
package disk

import (
	"errors"

	"vademecum/api"
)

// half: so many bytes of a torn Write last.
const half = api.SectorSize / 2

// sector: the bytes of one sector.
type sector [api.SectorSize]byte

// write: a Write that was done, its bytes filled up.
type write struct {
	at int
	b  sector
}

// Disk: see the chapter.
type Disk struct {
	flushed []sector // what a crash can't take
	cached  []sector // what Read tells
	loose   []write  // in the order they were done
	writes  int      // done since New, also those that a crash took
	dead    bool
	cut     bool // whether left counts
	left    int  // Writes that are done before the power goes
}

// New: see the chapter.
func New(sectors int) *Disk {
	n := min(max(sectors, 1), api.MaxSectors)
	return &Disk{flushed: make([]sector, n), cached: make([]sector, n)}
}

// Len: see the chapter.
func (d *Disk) Len() int { return len(d.cached) }

// Write: see the chapter.
func (d *Disk) Write(at int, b string) error {
	if err := d.mayWrite(at, len(b)); err != nil {
		// A cut comes due at a Write: the power that it takes stays away.
		d.dead = errors.Is(err, api.ErrDead)
		return err
	}
	w := write{at: at}
	copy(w.b[:], b)
	d.cached[at] = w.b
	d.loose = append(d.loose, w)
	d.writes++
	if d.cut {
		d.left--
	}
	return nil
}

// Read: see the chapter.
func (d *Disk) Read(at int) (string, error) {
	if err := d.reach("read", at); err != nil {
		return "", err
	}
	return string(d.cached[at][:]), nil
}

// Flush: see the chapter.
func (d *Disk) Flush() error {
	if d.dead {
		return refusal{call: "flush", why: api.ErrDead}
	}
	for _, w := range d.loose {
		d.flushed[w.at] = w.b
	}
	d.loose = nil
	return nil
}

// Cut: see the chapter.
func (d *Disk) Cut(after int) {
	d.cut = after >= 0
	d.left = max(after, 0)
}

// Crash: see the chapter.
func (d *Disk) Crash(keep []bool, torn int) {
	for i, w := range d.loose {
		if i < len(keep) && keep[i] {
			d.land(w, i == torn)
		}
	}
	for _, w := range d.loose {
		d.cached[w.at] = d.flushed[w.at]
	}
	d.loose = nil
	d.dead = false
	d.Cut(-1)
}

// Writes: see the chapter.
func (d *Disk) Writes() int { return d.writes }

// Loose: see the chapter.
func (d *Disk) Loose() int { return len(d.loose) }

// mayWrite tells why a Write of so many bytes would not be done.
func (d *Disk) mayWrite(at, size int) error {
	if err := d.reach("write", at); err != nil {
		return err
	}
	if size > api.SectorSize {
		return refuse("write", at, api.ErrLarge)
	}
	// Last of all, since a cut counts only Writes that nothing else refuses.
	if d.cut && d.left == 0 {
		return refuse("write", at, api.ErrDead)
	}
	return nil
}

// reach tells why a call can't come to a sector.
func (d *Disk) reach(call string, at int) error {
	if d.dead {
		return refuse(call, at, api.ErrDead)
	}
	if at < 0 || at >= len(d.cached) {
		return refuse(call, at, api.ErrFull)
	}
	return nil
}

// land makes a loose Write last through a crash.
func (d *Disk) land(w write, torn bool) {
	n := len(w.b)
	if torn {
		n = half
	}
	copy(d.flushed[w.at][:n], w.b[:n])
}
