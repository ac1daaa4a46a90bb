package journal

import (
	"strings"

	"vademecum/api"
	"vademecum/disk"
	"vademecum/frame"
)

// least: so many sectors are needed for the superblocks and two halves.
const least = supers + 2

// generation: so many seqs belong to each turn.
const generation = 1000000

// most: so many bytes a record has at most.
const most = api.MaxLine + 10

// halfLen tells how many sectors each half has.
func halfLen(d *disk.Disk) int { return (d.Len() - supers) / 2 }

// halfAt tells the first sector of a half.
func halfAt(d *disk.Disk, half int) int { return supers + half*halfLen(d) }

// room tells how many bytes a half has.
func room(d *disk.Disk) int { return halfLen(d) * api.SectorSize }

// readHalf reads all bytes of a half.
func readHalf(d *disk.Disk, half int) (string, error) {
	var all strings.Builder
	for i := range halfLen(d) {
		b, err := d.Read(halfAt(d, half) + i)
		if err != nil {
			return "", ofDisk(err)
		}
		all.WriteString(b)
	}
	return all.String(), nil
}

// writeRow writes b on the sectors from at on, bytes 0 behind it to the last one's end.
func writeRow(d *disk.Disk, at int, b string) error {
	for from := 0; from < len(b); from += api.SectorSize {
		err := d.Write(at+from/api.SectorSize, b[from:min(from+api.SectorSize, len(b))])
		if err != nil {
			return ofDisk(err)
		}
	}
	return nil
}

// scrub makes bytes 0 of what lies in a half behind its records, so that no record that is added makes a later one of a lost row readable. It writes only where something lies, and tells how often.
func scrub(d *disk.Disk, half int, all string, used int) (int, error) {
	writes := 0
	for from := used - used%api.SectorSize; from < len(all); from += api.SectorSize {
		end := from + api.SectorSize
		kept := max(used, from)
		if isZero(all[kept:end]) {
			continue
		}
		if err := d.Write(halfAt(d, half)+from/api.SectorSize, all[from:kept]); err != nil {
			return writes, ofDisk(err)
		}
		writes++
	}
	return writes, nil
}

// isZero tells whether b is nothing but bytes 0.
func isZero(b string) bool { return strings.Trim(b, "\x00") == "" }

// wrapped is the records as they lie one behind the other, the first one at that place of the turn's generation, if none is too large and all have room.
func wrapped(turn, place, room int, records ...string) (string, error) {
	for _, r := range records {
		if len(r) > most {
			return "", api.ErrLarge
		}
	}
	var b strings.Builder
	for i, r := range records {
		b.WriteString(frame.Wrap(turn*generation+place+i, r))
		if b.Len() > room {
			return "", api.ErrFull
		}
	}
	return b.String(), nil
}

// unwrapped tells the records at the front of a half's bytes, up to the first that can't be read, and how many bytes they have.
func unwrapped(turn int, all string) ([]string, int) {
	var records []string
	rest := all
	for {
		record, behind, err := frame.Open(rest, turn*generation+len(records))
		if err != nil {
			return records, len(all) - len(rest)
		}
		records = append(records, record)
		rest = behind
	}
}
