package journal_test

import (
	"errors"
	"fmt"
	"slices"
	"strings"
	"testing"

	"vademecum/api"
	"vademecum/disk"
	"vademecum/frame"
	"vademecum/journal"
	"vademecum/pack"
)

const (
	size = api.SectorSize
	// recordMost: so many bytes a record has at most.
	recordMost = api.MaxLine + 10
	// overhead: so many bytes a frame of the first turns has beside a short record.
	overhead = 1 + 3 + 4
)

// tells holds an error against a number, by errors.Is and by errors.As.
func tells(t *testing.T, what string, err error, want api.Errno) {
	t.Helper()
	var n api.Errno
	if want == api.OK {
		if err != nil {
			t.Fatalf("%s: %v, want none", what, err)
		}
		return
	}
	if !errors.Is(err, want) || !errors.As(err, &n) || n != want || !strings.HasPrefix(err.Error(), "journal: ") {
		t.Fatalf("%s: %v, want %v", what, err, want)
	}
}

// filled is b as so many sectors hold it.
func filled(b string, sectors int) string { return b + strings.Repeat("\x00", sectors*size-len(b)) }

// super is a superblock's bytes.
func super(turn, half int) string { return frame.Wrap(turn, pack.Num(half)) }

// row is records as they lie one behind the other.
func row(turn int, records ...string) string {
	var b strings.Builder
	for i, r := range records {
		b.WriteString(frame.Wrap(turn*1000000+i, r))
	}
	return b.String()
}

// holds reads the disk's sectors from at on against b, filled up to so many of them.
func holds(t *testing.T, d *disk.Disk, what string, at, sectors int, b string) {
	t.Helper()
	want := filled(b, sectors)
	for i := range sectors {
		got, err := d.Read(at + i)
		if err != nil || got != want[i*size:(i+1)*size] {
			t.Fatalf("%s: sector %d: %q, %v, want %q", what, at+i, got, err, want[i*size:(i+1)*size])
		}
	}
}

// put writes b on the disk's sectors from at on, and flushes.
func put(t *testing.T, d *disk.Disk, at int, b string) {
	t.Helper()
	for i := 0; i < len(b); i += size {
		tells(t, "put", d.Write(at+i/size, b[i:min(i+size, len(b))]), api.OK)
	}
	tells(t, "put", d.Flush(), api.OK)
}

// counts holds how many Writes were done since was, and how many of all wait.
func counts(t *testing.T, d *disk.Disk, what string, was, writes, loose int) {
	t.Helper()
	if d.Writes()-was != writes || d.Loose() != loose {
		t.Fatalf("%s: %d writes, %d loose, want %d, %d", what, d.Writes()-was, d.Loose(), writes, loose)
	}
}

// formatted is a new disk with an empty journal.
func formatted(t *testing.T, sectors int) *disk.Disk {
	t.Helper()
	d := disk.New(sectors)
	tells(t, "format", journal.Format(d), api.OK)
	return d
}

// opens opens a disk, and holds its records against want.
func opens(t *testing.T, d *disk.Disk, want ...string) *journal.Journal {
	t.Helper()
	j, got, err := journal.Open(d)
	tells(t, "open", err, api.OK)
	if j == nil || !slices.Equal(got, want) || j.Len() != len(want) {
		t.Fatalf("open: %q, want %q", got, want)
	}
	return j
}

// refuses holds that a disk isn't opened.
func refuses(t *testing.T, what string, d *disk.Disk, want api.Errno) {
	t.Helper()
	j, got, err := journal.Open(d)
	tells(t, what, err, want)
	if j != nil || len(got) > 0 {
		t.Fatalf("%s: %v, %q beside an error", what, j, got)
	}
}

// adds adds records, each of which must be taken.
func adds(t *testing.T, j *journal.Journal, records ...string) {
	t.Helper()
	for _, r := range records {
		was := j.Len()
		tells(t, "add", j.Add(r), api.OK)
		if j.Len() != was+1 {
			t.Fatalf("add: len %d, want %d", j.Len(), was+1)
		}
	}
}

func TestP4_1TooFewSectors(t *testing.T) {
	for sectors := range 4 {
		d := disk.New(sectors)
		tells(t, "format", journal.Format(d), api.ErrFull)
		refuses(t, "open", d, api.ErrFull)
		counts(t, d, "too few", 0, 0, 0)
		// That there is no room is told ahead of that there is no power.
		d.Cut(0)
		tells(t, "cut", wrote(d.Write(0, "x")), api.ErrDead)
		tells(t, "format without power", journal.Format(d), api.ErrFull)
		refuses(t, "open without power", d, api.ErrFull)
	}
	var none disk.Disk
	tells(t, "format of no New", journal.Format(&none), api.ErrFull)
	refuses(t, "open of no New", &none, api.ErrFull)
	opens(t, formatted(t, 4))
}

// wrote makes the disk's error look like the journal's, for tells.
func wrote(err error) error {
	if err == nil {
		return nil
	}
	return journalError{err}
}

type journalError struct{ error }

func (e journalError) Error() string { return "journal: " + e.error.Error() }
func (e journalError) Unwrap() error { return e.error }

func TestP4_1Halves(t *testing.T) {
	for _, c := range []struct{ sectors, half int }{{4, 1}, {5, 1}, {6, 2}, {7, 2}, {10, 4}, {11, 4}, {1999, 998}, {2000, 999}} {
		d := formatted(t, c.sectors)
		j := opens(t, d)
		// A row that just fills the half: so many sectors, a record each.
		full := slices.Repeat([]string{strings.Repeat("f", size-overhead)}, c.half)
		adds(t, j, full...)
		tells(t, "behind the half", j.Add(""), api.ErrFull)
		holds(t, d, "half 0", 2, c.half, row(1, full...))
		holds(t, d, "behind half 0", 2+c.half, c.sectors-2-c.half, "")
		tells(t, "compact", j.Compact(full), api.OK)
		holds(t, d, "half 1", 2+c.half, c.half, row(2, full...))
		holds(t, d, "half 0 stays", 2, c.half, row(1, full...))
		holds(t, d, "behind half 1", 2+2*c.half, c.sectors-2-2*c.half, "")
		opens(t, d, full...)
	}
}

func TestP4_1FormatBytes(t *testing.T) {
	d := formatted(t, 9)
	counts(t, d, "format", 0, 2, 0)
	holds(t, d, "superblock", 0, 1, "\x02\x01\x00"+sumBytes("\x02\x01\x00"))
	holds(t, d, "the others", 1, 8, "")
	tells(t, "format again", journal.Format(d), api.OK)
	counts(t, d, "format again", 0, 4, 0)
	opens(t, d)
}

// sumBytes is a sum as it stands behind what it is of.
func sumBytes(b string) string {
	n := frame.Sum(b)
	return string([]byte{byte(n), byte(n >> 8), byte(n >> 16), byte(n >> 24)})
}

// dirty is a disk of nine sectors that are full of something, sectors 3 of half 0 and 6 of half 1 of bytes 0.
func dirty(t *testing.T) *disk.Disk {
	t.Helper()
	d := disk.New(9)
	for at := range 9 {
		if at != 3 && at != 6 {
			put(t, d, at, strings.Repeat(string(rune('a'+at)), size))
		}
	}
	return d
}

func TestP4_1FormatWritesInOrder(t *testing.T) {
	// Sector 1, then what lies in half 0, flushed; then sector 0, flushed.
	order := []int{1, 2, 4, 0}
	for cut := range len(order) + 1 {
		d, want := dirty(t), dirty(t)
		was := d.Writes()
		d.Cut(cut)
		err := journal.Format(d)
		for _, at := range order[:cut] {
			b := ""
			if at == 0 {
				b = super(1, 0)
			}
			put(t, want, at, filled(b, 1))
		}
		if cut < len(order) {
			tells(t, "cut", err, api.ErrDead)
			counts(t, d, "cut", was, cut, cut%3)
			d.Crash(slices.Repeat([]bool{true}, 9), -1)
		} else {
			tells(t, "format", err, api.OK)
			counts(t, d, "format", was, 4, 0)
		}
		for at := range 9 {
			b, _ := want.Read(at)
			holds(t, d, fmt.Sprint("cut ", cut), at, 1, b)
		}
	}
}

func TestP4_1FormatForgets(t *testing.T) {
	d := formatted(t, 8)
	j := opens(t, d)
	adds(t, j, "a", "b")
	tells(t, "compact", j.Compact([]string{"c", "d"}), api.OK)
	adds(t, j, "e")
	tells(t, "format", journal.Format(d), api.OK)
	holds(t, d, "format", 0, 5, filled(super(1, 0), 1))
	holds(t, d, "half 1 stays", 5, 3, row(2, "c", "d", "e"))
	j = opens(t, d)
	// What lay in half 1 is of the turn that comes next: a Compact leaves nothing of it.
	tells(t, "compact", j.Compact([]string{"c"}), api.OK)
	opens(t, d, "c")
}

func TestP4_1WithoutPower(t *testing.T) {
	d := formatted(t, 8)
	j := opens(t, d)
	d.Cut(0)
	tells(t, "cut", wrote(d.Write(0, "")), api.ErrDead)
	tells(t, "format", journal.Format(d), api.ErrDead)
	refuses(t, "open", d, api.ErrDead)
	// What is refused ahead of all writing doesn't ask the disk.
	tells(t, "large", j.Add(strings.Repeat("x", recordMost+1)), api.ErrLarge)
	tells(t, "full", j.Add(strings.Repeat("x", 200)), api.ErrFull)
	tells(t, "large", j.Compact([]string{strings.Repeat("x", recordMost+1)}), api.ErrLarge)
	tells(t, "full", j.Compact([]string{strings.Repeat("x", 200)}), api.ErrFull)
	tells(t, "add", j.Add("x"), api.ErrDead)
	// A disk without power that holds no journal: what it holds can't be told.
	d = disk.New(8)
	d.Cut(0)
	tells(t, "format", journal.Format(d), api.ErrDead)
	refuses(t, "open", d, api.ErrDead)
	d.Crash(nil, -1)
	refuses(t, "open", d, api.ErrForm)
}

func TestP4_1Superblocks(t *testing.T) {
	spoilt := "\x02\x07\x00" + sumBytes("\x02\x08\x00")
	for i, c := range []struct {
		first, second string
		turn, half    int
	}{
		{super(1, 0), "", 1, 0}, {"", super(1, 0), 1, 0}, {super(1, 1), "", 1, 1}, {"", super(1, 1), 1, 1},
		{super(1, 0), super(2, 1), 2, 1}, {super(3, 0), super(2, 1), 3, 0}, {super(2, 1), super(3, 0), 3, 0},
		{super(127, 1), super(128, 0), 128, 0}, {super(1, 1), super(1<<30, 1), 1 << 30, 1},
		{super(3, 0), super(2, 0), 3, 0}, {super(5, 0), super(900, 1), 900, 1},
		// of one turn: the first
		{super(2, 0), super(2, 1), 2, 0}, {super(2, 1), super(2, 0), 2, 1},
		// of two, one is none
		{spoilt, super(1, 1), 1, 1}, {super(1, 0), spoilt, 1, 0}, {super(0, 0), super(1, 1), 1, 1},
		{super(1, 1), frame.Wrap(2, "\x02"), 1, 1}, {super(9, 0) + "x", super(8, 1), 8, 1}, {super(7, 1), filled(super(9, 0), 1)[:size-1] + "x", 7, 1},
	} {
		d := disk.New(6)
		put(t, d, 0, filled(c.first, 1)+filled(c.second, 1))
		was := d.Writes()
		j := opens(t, d)
		counts(t, d, "open", was, 0, 0)
		adds(t, j, "a")
		holds(t, d, fmt.Sprint("row ", i), 2+2*c.half, 2, row(c.turn, "a"))
		holds(t, d, fmt.Sprint("row ", i), 4-2*c.half, 2, "")
		opens(t, d, "a")
	}
}

func TestP4_1NoSuperblocks(t *testing.T) {
	for i, b := range []string{
		"", "\x00" + super(1, 0), super(1, 0)[:6],
		// a turn of 0, another half, more than a half in the frame
		super(0, 0), super(0, 1), super(-1, 0),
		frame.Wrap(1, "\x02"), frame.Wrap(1, ""), frame.Wrap(1, "\x00\x00"), frame.Wrap(1, "\x01x"), frame.Wrap(1, "\x80\x00"), frame.Wrap(1, "\x81\x01"),
		// something behind it
		super(1, 0) + "\x01", filled(super(1, 0), 1)[:size-1] + "x", super(1, 0) + super(2, 1),
		// another sum; right sums of no turn
		"\x02\x07\x00" + sumBytes("\x02\x08\x00"), "\x00" + sumBytes("\x00"), "\x01\x80" + sumBytes("\x01\x80"), "\x03\x80\x00\x00" + sumBytes("\x03\x80\x00\x00"),
		super(1<<56, 0), strings.Repeat("\xff", size), strings.Repeat("\x80", size), "\x7f" + strings.Repeat("x", size-1),
	} {
		for at := range 2 {
			d := disk.New(6)
			put(t, d, at, filled(b, 1))
			was := d.Writes()
			refuses(t, fmt.Sprint("row ", i), d, api.ErrForm)
			put(t, d, 1-at, filled(b, 1))
			refuses(t, fmt.Sprint("row ", i), d, api.ErrForm)
			counts(t, d, "refused", was, 1, 0)
		}
	}
}

func TestP4_1OpenReadsUpToTheFirstThatCant(t *testing.T) {
	first := row(1, "a", "b")
	spoilt := []byte(row(1, "a", "b", "c"))
	spoilt[overhead+3] ^= 1
	for i, c := range []struct {
		half string
		want []string
	}{
		{"", nil}, {first, []string{"a", "b"}}, {row(1, "", "", ""), []string{"", "", ""}},
		{"\x00" + first, nil}, {row(0, "a"), nil}, {row(2, "a"), nil},
		{first + row(1, "c"), []string{"a", "b"}}, {first + row(2, "c"), []string{"a", "b"}},
		{first + frame.Wrap(1000003, "d"), []string{"a", "b"}}, {first + frame.Wrap(1000001, "b"), []string{"a", "b"}},
		{first + "\x00" + frame.Wrap(1000002, "c"), []string{"a", "b"}},
		{first + frame.Wrap(1000002, "c"), []string{"a", "b", "c"}},
		{string(spoilt), []string{"a"}}, {frame.Wrap(1000001, "b"), nil},
		{first + frame.Wrap(1000002, "cut off")[:9], []string{"a", "b"}},
		// A record that reaches behind the half: what is there is another thing's.
		{row(1, strings.Repeat("x", 2*size-overhead-1), "y"), []string{strings.Repeat("x", 2*size-overhead-1)}},
	} {
		for half := range 2 {
			d := disk.New(7)
			put(t, d, half, super(1, half))
			put(t, d, 2+2*half, c.half)
			was := d.Writes()
			opens(t, d, c.want...)
			// Nothing is left behind the records, and what lies there already as it should isn't written.
			kept := row(1, c.want...)
			writes := 0
			for at := range 2 {
				from, end := at*size, (at+1)*size
				if end > len(kept) && filled(c.half, 3)[from:end] != filled(kept, 3)[from:end] {
					writes++
				}
			}
			counts(t, d, fmt.Sprint("row ", i), was, writes, 0)
			holds(t, d, fmt.Sprint("row ", i), 2+2*half, 2, kept)
			opens(t, d, c.want...)
			counts(t, d, "open again", was, writes, 0)
		}
	}
}

func TestP4_1OpenScrubs(t *testing.T) {
	// Records end in sector 3; something lies behind them there, in sector 5, in half 1 and behind it.
	kept := row(1, strings.Repeat("k", 70))
	d := disk.New(11)
	put(t, d, 0, super(1, 0))
	put(t, d, 2, filled(kept, 2)[:2*size-1]+"x")
	put(t, d, 5, "y")
	put(t, d, 6, "half 1")
	put(t, d, 10, "behind")
	was := d.Writes()
	opens(t, d, strings.Repeat("k", 70))
	counts(t, d, "open", was, 2, 0)
	holds(t, d, "half 0", 2, 4, kept)
	holds(t, d, "half 1", 6, 1, "half 1")
	holds(t, d, "behind", 10, 1, "behind")
	// In order: the cut one comes first.
	for cut := range 2 {
		d := disk.New(11)
		put(t, d, 0, super(1, 0))
		put(t, d, 2, filled(kept, 2)[:2*size-1]+"x")
		put(t, d, 5, "y")
		d.Cut(cut)
		refuses(t, "cut", d, api.ErrDead)
		d.Crash([]bool{true}, -1)
		want := filled(kept, 2)
		if cut == 0 {
			want = want[:2*size-1] + "x"
		}
		holds(t, d, "cut", 2, 2, want)
		holds(t, d, "cut", 5, 1, "y")
		opens(t, d, strings.Repeat("k", 70))
		holds(t, d, "behind the cut", 2, 4, kept)
	}
}

// What is written is flushed by Open only if something lay behind the records.
func TestP4_1OpenFlushesIfThereIsSome(t *testing.T) {
	d := formatted(t, 8)
	adds(t, opens(t, d), "a", "b")
	counts(t, d, "adds", 2, 2, 2)
	opens(t, d, "a", "b")
	counts(t, d, "open", 2, 2, 2)
	tells(t, "put", wrote(d.Write(4, "x")), api.OK)
	opens(t, d, "a", "b")
	counts(t, d, "open", 2, 4, 0)
}

func TestP4_1AddBytes(t *testing.T) {
	d := formatted(t, 8)
	j := opens(t, d)
	adds(t, j, "a")
	holds(t, d, "a", 2, 3, "\x04\xc0\x84\x3da"+sumBytes("\x04\xc0\x84\x3da"))
	counts(t, d, "a", 2, 1, 1)
	adds(t, j, "")
	holds(t, d, "empty", 2, 3, row(1, "a", ""))
	// just to the sector's end; then from it on; then over it
	adds(t, j, strings.Repeat("b", size-3*overhead-1))
	counts(t, d, "to the end", 2, 3, 3)
	adds(t, j, "c")
	counts(t, d, "from the end on", 2, 4, 4)
	adds(t, j, strings.Repeat("d", size))
	counts(t, d, "over the end", 2, 6, 6)
	want := row(1, "a", "", strings.Repeat("b", size-3*overhead-1), "c", strings.Repeat("d", size))
	holds(t, d, "all", 2, 3, want)
	holds(t, d, "half 1", 5, 3, "")
	tells(t, "sync", j.Sync(), api.OK)
	counts(t, d, "sync", 2, 6, 0)
	d.Crash(nil, -1)
	holds(t, d, "synced", 2, 3, want)
}

// A journal that is opened goes on where the records end, at each place of a sector.
func TestP4_1AddBehindOpen(t *testing.T) {
	for n := range 2*size + 2 {
		d := formatted(t, 14)
		x := strings.Repeat("x", n)
		adds(t, opens(t, d), x)
		adds(t, opens(t, d, x), x)
		adds(t, opens(t, d, x, x), "", "y")
		holds(t, d, fmt.Sprint(n), 2, 6, row(1, x, x, "", "y"))
		opens(t, d, x, x, "", "y")
	}
}

func TestP4_1AddWritesInOrder(t *testing.T) {
	long := strings.Repeat("l", 3*size)
	for cut := range 5 {
		d := formatted(t, 12)
		j := opens(t, d)
		adds(t, j, "a")
		d.Cut(cut)
		err := j.Add(long)
		whole := filled(row(1, "a", long), 5)
		if cut == 4 {
			tells(t, "add", err, api.OK)
			holds(t, d, "add", 2, 5, whole)
			continue
		}
		tells(t, "cut", err, api.ErrDead)
		if j.Len() != 1 {
			t.Errorf("cut %d: len %d", cut, j.Len())
		}
		d.Crash(slices.Repeat([]bool{true}, 9), -1)
		holds(t, d, "cut", 2, 5, whole[:max(cut*size, len(row(1, "a")))])
		opens(t, d, "a")
	}
}

func TestP4_1AddRefuses(t *testing.T) {
	most, large := strings.Repeat("m", recordMost), strings.Repeat("l", recordMost+1)
	d := formatted(t, 2+2*33)
	j := opens(t, d)
	tells(t, "large", j.Add(large), api.ErrLarge)
	tells(t, "very large", j.Add(strings.Repeat(large, 9)), api.ErrLarge)
	adds(t, j, most)
	tells(t, "full", j.Add(most), api.ErrFull)
	// That it is too large is told ahead of that it has no room.
	tells(t, "large and full", j.Add(large), api.ErrLarge)
	holds(t, d, "refused", 2, 33, row(1, most))
	counts(t, d, "refused", 2, 32, 32)
	// one byte more than there is room for; then just so many
	left := 33*size - len(row(1, most)) - overhead
	tells(t, "a byte too many", j.Add(strings.Repeat("r", left+1)), api.ErrFull)
	adds(t, j, strings.Repeat("r", left))
	tells(t, "not even an empty one", j.Add(""), api.ErrFull)
	if j.Len() != 2 {
		t.Errorf("len %d", j.Len())
	}
	tells(t, "sync", j.Sync(), api.OK)
	opens(t, d, most, strings.Repeat("r", left))
	holds(t, d, "half 1", 2+33, 33, "")
}

func TestP4_2CompactBytes(t *testing.T) {
	d := formatted(t, 11)
	j := opens(t, d)
	adds(t, j, "a", "b")
	records := []string{"c", "", strings.Repeat("d", 80)}
	was := d.Writes()
	tells(t, "compact", j.Compact(records), api.OK)
	counts(t, d, "compact", was, 4+1, 0)
	if !slices.Equal(records, []string{"c", "", strings.Repeat("d", 80)}) || j.Len() != 3 {
		t.Errorf("compact: %q, len %d", records, j.Len())
	}
	holds(t, d, "superblocks", 0, 2, filled(super(1, 0), 1)+super(2, 1))
	holds(t, d, "half 0", 2, 4, row(1, "a", "b"))
	holds(t, d, "half 1", 6, 4, row(2, records...))
	holds(t, d, "behind", 10, 1, "")
	adds(t, j, "e")
	all := append(slices.Clone(records), "e")
	holds(t, d, "half 1", 6, 4, row(2, all...))
	opens(t, d, all...)
	tells(t, "compact to none", j.Compact(nil), api.OK)
	holds(t, d, "superblocks", 0, 2, filled(super(3, 0), 1)+super(2, 1))
	holds(t, d, "half 0", 2, 4, "")
	holds(t, d, "half 1", 6, 4, row(2, all...))
	opens(t, d)
}

// The superblock that doesn't count is the one that is written, and the half that doesn't count, wherever these lie.
func TestP4_2CompactTurns(t *testing.T) {
	for _, c := range []struct{ at, turn, half int }{{0, 1, 0}, {0, 7, 1}, {1, 127, 0}, {1, 128, 1}, {0, 1<<20 - 1, 1}} {
		d := disk.New(8)
		put(t, d, c.at, super(c.turn, c.half))
		put(t, d, 2+3*c.half, row(c.turn, "old"))
		put(t, d, 5-3*c.half, strings.Repeat("stale", 38))
		j := opens(t, d, "old")
		for n := range 5 {
			next := (c.half + n + 1) % 2
			x := fmt.Sprint("new", n)
			tells(t, "compact", j.Compact([]string{x}), api.OK)
			holds(t, d, "superblock", (c.at+n+1)%2, 1, super(c.turn+n+1, next))
			holds(t, d, "the other one", (c.at+n)%2, 1, super(c.turn+n, 1-next))
			holds(t, d, "half", 2+3*next, 3, row(c.turn+n+1, x))
			if n%2 == 0 {
				j = opens(t, d, x)
			}
		}
	}
}

func TestP4_2CompactRefuses(t *testing.T) {
	large := strings.Repeat("l", recordMost+1)
	fits := strings.Repeat("x", 3*size-overhead-1) // a byte more tells how long it is
	for i, c := range []struct {
		records []string
		want    api.Errno
	}{
		{[]string{large}, api.ErrLarge}, {[]string{"a", large, "b"}, api.ErrLarge},
		{[]string{fits}, api.OK}, {[]string{fits + "x"}, api.ErrFull}, {[]string{fits, ""}, api.ErrFull},
		{slices.Repeat([]string{""}, 3*size/overhead), api.OK}, {slices.Repeat([]string{""}, 3*size/overhead+1), api.ErrFull},
		{slices.Repeat([]string{""}, 1<<20), api.ErrFull},
		// too large is told ahead of no room, wherever it stands
		{[]string{strings.Repeat("x", 3*size), large}, api.ErrLarge}, {append(slices.Repeat([]string{"x"}, 1000), large), api.ErrLarge},
		{[]string{strings.Repeat("x", recordMost), "y"}, api.ErrFull},
	} {
		d := formatted(t, 8)
		j := opens(t, d)
		adds(t, j, "a", "b")
		was := d.Writes()
		err := j.Compact(c.records)
		tells(t, fmt.Sprint("row ", i), err, c.want)
		if c.want == api.OK {
			opens(t, d, c.records...)
			continue
		}
		counts(t, d, fmt.Sprint("row ", i), was, 0, 2)
		if j.Len() != 2 {
			t.Errorf("row %d: len %d", i, j.Len())
		}
		adds(t, j, "c")
		opens(t, d, "a", "b", "c")
	}
	d := formatted(t, 2+2*32)
	most := strings.Repeat("m", recordMost)
	tells(t, "most", opens(t, d).Compact([]string{most}), api.OK)
	opens(t, d, most)
}

func TestP4_2CompactWritesInOrder(t *testing.T) {
	for cut := range 6 {
		d := formatted(t, 10)
		put(t, d, 6, strings.Repeat("\xff", 4*size))
		j := opens(t, d)
		adds(t, j, "old")
		tells(t, "sync", j.Sync(), api.OK)
		d.Cut(cut)
		err := j.Compact([]string{strings.Repeat("n", 100)})
		half := filled(row(2, strings.Repeat("n", 100)), 4)
		if cut == 5 {
			tells(t, "compact", err, api.OK)
			opens(t, d, strings.Repeat("n", 100))
			continue
		}
		tells(t, "cut", err, api.ErrDead)
		if j.Len() != 1 || d.Loose() != cut%4 {
			t.Errorf("cut %d: len %d, %d loose", cut, j.Len(), d.Loose())
		}
		d.Crash(slices.Repeat([]bool{true}, cut), -1)
		holds(t, d, "half 1", 6, 4, half[:cut*size]+strings.Repeat("\xff", (4-cut)*size))
		holds(t, d, "superblocks", 0, 2, super(1, 0))
		opens(t, d, "old")
	}
}

func TestP4_2Dead(t *testing.T) {
	large := strings.Repeat("x", recordMost+1)
	for i, end := range []func(d *disk.Disk, j *journal.Journal) error{
		func(d *disk.Disk, j *journal.Journal) error { d.Cut(0); return j.Add("x") },
		func(d *disk.Disk, j *journal.Journal) error { d.Cut(1); return j.Add(strings.Repeat("x", 60)) },
		func(d *disk.Disk, j *journal.Journal) error { d.Cut(0); return j.Compact(nil) },
		func(d *disk.Disk, j *journal.Journal) error { d.Cut(3); return j.Compact(nil) },
		func(d *disk.Disk, j *journal.Journal) error { d.Cut(0); d.Write(0, ""); return j.Sync() },
	} {
		d := formatted(t, 8)
		j := opens(t, d)
		adds(t, j, "a")
		tells(t, "sync", j.Sync(), api.OK)
		tells(t, fmt.Sprint("row ", i), end(d, j), api.ErrDead)
		for range 2 {
			for _, r := range []string{"", "x", large} {
				tells(t, "add", j.Add(r), api.ErrDead)
				tells(t, "compact", j.Compact([]string{r}), api.ErrDead)
			}
			tells(t, "compact", j.Compact(nil), api.ErrDead)
			tells(t, "sync", j.Sync(), api.ErrDead)
			if j.Len() != 1 {
				t.Errorf("row %d: len %d", i, j.Len())
			}
			// It stays dead when there is power again; another one, opened anew, isn't.
			d.Crash(nil, -1)
		}
		was := d.Writes()
		adds(t, opens(t, d, "a"), "b")
		tells(t, "add", j.Add("x"), api.ErrDead)
		counts(t, d, "dead", was, 1, 1)
		opens(t, d, "a", "b")
	}
}

func TestP4_2RefusedIsNotDead(t *testing.T) {
	d := formatted(t, 8)
	j := opens(t, d)
	tells(t, "large", j.Add(strings.Repeat("x", recordMost+1)), api.ErrLarge)
	tells(t, "full", j.Add(strings.Repeat("x", 200)), api.ErrFull)
	tells(t, "compact", j.Compact([]string{strings.Repeat("x", 200)}), api.ErrFull)
	adds(t, j, "a")
	tells(t, "sync", j.Sync(), api.OK)
	tells(t, "compact", j.Compact([]string{"b"}), api.OK)
	opens(t, d, "b")
}

// The answers are new memory: what is done with one touches neither the journal nor another one.
func TestRecordsAreNew(t *testing.T) {
	d := formatted(t, 8)
	adds(t, opens(t, d), "a", "b")
	_, first, _ := journal.Open(d)
	_, second, _ := journal.Open(d)
	first[0] = "x"
	_ = append(first, "y")
	if !slices.Equal(second, []string{"a", "b"}) {
		t.Errorf("the other answer: %q", second)
	}
	j := opens(t, d, "a", "b")
	records := []string{"c", "d"}
	tells(t, "compact", j.Compact(records), api.OK)
	records[0] = "x"
	adds(t, j, "e")
	opens(t, d, "c", "d", "e")
}

func TestJournalOfNoOpen(t *testing.T) {
	var j journal.Journal
	tells(t, "add", j.Add("x"), api.ErrDead)
	tells(t, "sync", j.Sync(), api.ErrDead)
	tells(t, "compact", j.Compact(nil), api.ErrDead)
	if j.Len() != 0 {
		t.Errorf("len %d", j.Len())
	}
}

func TestErrorsTellTheCall(t *testing.T) {
	d := formatted(t, 8)
	j := opens(t, d)
	for _, c := range []struct {
		err  error
		want string
	}{
		{journal.Format(disk.New(3)), "journal: format: error 14"},
		{j.Add(strings.Repeat("x", recordMost+1)), "journal: add: error 13"},
		{j.Compact([]string{strings.Repeat("x", 200)}), "journal: compact: error 14"},
		{func() error { d.Cut(0); return j.Add("x") }(), "journal: add: disk: write 2: error 25"},
		{j.Sync(), "journal: sync: error 25"},
	} {
		if c.err == nil || c.err.Error() != c.want {
			t.Errorf("%v, want %s", c.err, c.want)
		}
	}
}

func Example() {
	d := disk.New(100)
	journal.Format(d)
	j, none, _ := journal.Open(d)
	fmt.Println(len(none))
	j.Add("one")
	j.Add("two")
	j.Sync()
	j.Add("three")
	d.Crash(nil, -1)
	_, records, _ := journal.Open(d)
	fmt.Println(records)
	// Output:
	// 0
	// [one two]
}
