package journal

import (
	"errors"

	"vademecum/api"
	"vademecum/disk"
	"vademecum/frame"
	"vademecum/pack"
)

// supers: so many sectors, the first ones, are superblocks.
const supers = 2

// superblock: the sector that it lies on, its turn, and which half it names.
type superblock struct{ at, turn, half int }

// next is the superblock of the generation that comes behind: it leaves this one, and the half that this one names, as they are.
func (s superblock) next() superblock {
	return superblock{at: 1 - s.at, turn: s.turn + 1, half: 1 - s.half}
}

// write makes the superblock last.
func (s superblock) write(d *disk.Disk) error {
	if err := d.Write(s.at, frame.Wrap(s.turn, pack.Num(s.half))); err != nil {
		return ofDisk(err)
	}
	return ofDisk(d.Flush())
}

// counting finds the superblock that counts. Of two of one turn, which no journal leaves behind, it is that of sector 0.
func counting(d *disk.Disk) (superblock, error) {
	var best superblock
	for at := range supers {
		s, err := readSuper(d, at)
		// A sector that holds none leaves it to the other one; a disk that can't be read leaves nothing.
		if errors.Is(err, api.ErrDead) {
			return superblock{}, err
		}
		if err == nil && s.turn > best.turn {
			best = s
		}
	}
	if best.turn == 0 {
		return superblock{}, api.ErrForm
	}
	return best, nil
}

// readSuper reads a superblock, or tells why there is none.
func readSuper(d *disk.Disk, at int) (superblock, error) {
	b, err := d.Read(at)
	if err != nil {
		return superblock{}, ofDisk(err)
	}
	turn, err := turnOf(b)
	if err != nil {
		return superblock{}, err
	}
	text, behind, err := frame.Open(b, turn)
	if err != nil {
		return superblock{}, err
	}
	half, more, err := pack.Take(text)
	if err != nil {
		return superblock{}, err
	}
	if turn == 0 || half > 1 || more != "" || !isZero(behind) {
		return superblock{}, api.ErrForm
	}
	return superblock{at: at, turn: turn, half: half}, nil
}

// turnOf looks into a frame for the seq that it would have to be opened with.
func turnOf(b string) (int, error) {
	text, _, err := pack.TakeText(b, len(b))
	if err != nil {
		return 0, err
	}
	turn, _, err := pack.Take(text)
	return turn, err
}
