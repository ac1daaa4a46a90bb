package disk_test

import (
	"errors"
	"fmt"
	"math"
	"slices"
	"strings"
	"testing"

	"vademecum/api"
	"vademecum/disk"
)

// filled is b as a sector holds it.
func filled(b string) string { return b + strings.Repeat("\x00", api.SectorSize-len(b)) }

// mustWrite writes, and ends the test if that is refused.
func mustWrite(t *testing.T, d *disk.Disk, at int, b string) {
	t.Helper()
	if err := d.Write(at, b); err != nil {
		t.Fatalf("write %d: %v", at, err)
	}
}

// mustFlush flushes, and ends the test if that is refused.
func mustFlush(t *testing.T, d *disk.Disk) {
	t.Helper()
	if err := d.Flush(); err != nil {
		t.Fatalf("flush: %v", err)
	}
}

// reads holds the sectors from 0 on against want, each filled up.
func reads(t *testing.T, d *disk.Disk, want ...string) {
	t.Helper()
	for at, b := range want {
		got, err := d.Read(at)
		if err != nil || got != filled(b) {
			t.Errorf("read %d: %q, %v; want %q", at, got, err, filled(b))
		}
	}
}

// counts holds Writes and Loose against what they should be.
func counts(t *testing.T, d *disk.Disk, writes, loose int) {
	t.Helper()
	if d.Writes() != writes || d.Loose() != loose {
		t.Errorf("writes %d, loose %d; want %d, %d", d.Writes(), d.Loose(), writes, loose)
	}
}

// tells holds an error against a number, by errors.Is and by errors.As.
func tells(t *testing.T, what string, err error, want api.Errno) {
	t.Helper()
	var n api.Errno
	if want == api.OK {
		if err != nil {
			t.Errorf("%s: %v, want none", what, err)
		}
		return
	}
	if !errors.Is(err, want) || !errors.As(err, &n) || n != want || err.Error() == "" {
		t.Errorf("%s: %v, want %v", what, err, want)
	}
}

// dead holds that there is no power: each call that can err is ErrDead, also at wrong arguments.
func dead(t *testing.T, d *disk.Disk) {
	t.Helper()
	for _, at := range []int{0, -1, api.MaxSectors} {
		tells(t, "write without power", d.Write(at, "x"), api.ErrDead)
		tells(t, "large write without power", d.Write(at, strings.Repeat("x", api.SectorSize+1)), api.ErrDead)
		got, err := d.Read(at)
		tells(t, "read without power", err, api.ErrDead)
		if got != "" {
			t.Errorf("read without power: %q beside an error", got)
		}
	}
	tells(t, "flush without power", d.Flush(), api.ErrDead)
}

func TestP1_1NewHoldsSectors(t *testing.T) {
	for _, c := range []struct{ sectors, want int }{
		{math.MinInt, 1}, {-1, 1}, {0, 1}, {1, 1}, {2, 2}, {5, 5},
		{api.MaxSectors - 1, api.MaxSectors - 1}, {api.MaxSectors, api.MaxSectors},
		{api.MaxSectors + 1, api.MaxSectors}, {math.MaxInt, api.MaxSectors},
	} {
		d := disk.New(c.sectors)
		if d.Len() != c.want {
			t.Errorf("new %d: len %d, want %d", c.sectors, d.Len(), c.want)
		}
		reads(t, d, make([]string, c.want)...)
		counts(t, d, 0, 0)
		mustWrite(t, d, c.want-1, "last")
		tells(t, "behind the last sector", d.Write(c.want, ""), api.ErrFull)
	}
}

func TestP1_1WriteFillsUp(t *testing.T) {
	d := disk.New(2)
	all := strings.Repeat("z", api.SectorSize)
	for i, b := range []string{"a", all, "b", "", all[1:], "\x00c\x00", "\xff\xfe"} {
		mustWrite(t, d, 1, b)
		reads(t, d, "", b)
		counts(t, d, i+1, i+1)
	}
}

func TestP1_1WriteRefuses(t *testing.T) {
	large := strings.Repeat("x", api.SectorSize+1)
	for _, c := range []struct {
		at   int
		b    string
		want api.Errno
	}{
		{0, large[1:], api.OK}, {1, "", api.OK},
		{2, "x", api.ErrFull}, {-1, "x", api.ErrFull},
		{math.MaxInt, "x", api.ErrFull}, {math.MinInt, "x", api.ErrFull},
		{0, large, api.ErrLarge}, {1, strings.Repeat(large, 100), api.ErrLarge},
		{2, large, api.ErrFull}, {-1, large, api.ErrFull},
	} {
		d := disk.New(2)
		mustWrite(t, d, 0, "old")
		err := d.Write(c.at, c.b)
		tells(t, fmt.Sprintf("write %d of %d bytes", c.at, len(c.b)), err, c.want)
		if err == nil {
			continue
		}
		reads(t, d, "old", "")
		counts(t, d, 1, 1)
	}
}

func TestP1_1ReadRefuses(t *testing.T) {
	d := disk.New(2)
	mustWrite(t, d, 1, "x")
	for _, at := range []int{2, -1, api.MaxSectors, math.MaxInt, math.MinInt} {
		got, err := d.Read(at)
		tells(t, fmt.Sprint("read ", at), err, api.ErrFull)
		if got != "" {
			t.Errorf("read %d: %q beside an error", at, got)
		}
	}
	reads(t, d, "", "x")
}

func TestP1_1FlushAndCounts(t *testing.T) {
	d := disk.New(2)
	mustFlush(t, d)
	counts(t, d, 0, 0)
	mustWrite(t, d, 0, "a")
	mustWrite(t, d, 0, "a")
	mustWrite(t, d, 1, "b")
	counts(t, d, 3, 3)
	mustFlush(t, d)
	counts(t, d, 3, 0)
	reads(t, d, "a", "b")
	mustFlush(t, d)
	counts(t, d, 3, 0)
	mustWrite(t, d, 1, "c")
	counts(t, d, 4, 1)
	reads(t, d, "a", "c")
}

func TestP1_1SectorsAreApart(t *testing.T) {
	d, other := disk.New(3), disk.New(3)
	mustWrite(t, d, 1, "mine")
	mustFlush(t, d)
	reads(t, d, "", "mine", "")
	reads(t, other, "", "", "")
	counts(t, other, 0, 0)
}

func TestP1_2Cut(t *testing.T) {
	for after := range 4 {
		d := disk.New(2)
		mustWrite(t, d, 0, "old")
		mustFlush(t, d)
		d.Cut(after)
		for i := range after {
			mustWrite(t, d, 1, strings.Repeat("x", i+1))
		}
		reads(t, d, "old", strings.Repeat("x", after))
		tells(t, "the Write of the cut", d.Write(0, "new"), api.ErrDead)
		dead(t, d)
		counts(t, d, 1+after, after)
		d.Cut(-1)
		d.Cut(3)
		dead(t, d)
		d.Crash(slices.Repeat([]bool{true}, after+1), -1)
		reads(t, d, "old", strings.Repeat("x", after))
		counts(t, d, 1+after, 0)
	}
}

func TestP1_2CutBehindTheLastWrite(t *testing.T) {
	d := disk.New(1)
	d.Cut(2)
	mustWrite(t, d, 0, "a")
	mustWrite(t, d, 0, "b")
	mustFlush(t, d)
	reads(t, d, "b")
	d.Cut(math.MaxInt)
	mustWrite(t, d, 0, "c")
	reads(t, d, "c")
}

func TestP1_2CutIsTakenBack(t *testing.T) {
	for _, below := range []int{-1, -2, math.MinInt} {
		d := disk.New(1)
		d.Cut(0)
		d.Cut(below)
		for range 5 {
			mustWrite(t, d, 0, "x")
		}
		d.Cut(1)
		mustWrite(t, d, 0, "y")
		d.Cut(1)
		mustWrite(t, d, 0, "z")
		tells(t, "a later Cut holds", d.Write(0, "x"), api.ErrDead)
	}
}

// A Write that is refused for another reason would not be done: the power doesn't go with it.
func TestP1_2CutCountsOnlyWritesThatWouldBeDone(t *testing.T) {
	large := strings.Repeat("x", api.SectorSize+1)
	for after := range 2 {
		d := disk.New(1)
		d.Cut(after)
		for range 3 {
			tells(t, "no such sector", d.Write(1, "x"), api.ErrFull)
			tells(t, "too large", d.Write(0, large), api.ErrLarge)
			reads(t, d, "")
			mustFlush(t, d)
		}
		for range after {
			mustWrite(t, d, 0, "x")
		}
		tells(t, "still no such sector", d.Write(1, "x"), api.ErrFull)
		reads(t, d, strings.Repeat("x", after))
		tells(t, "the cut", d.Write(0, "y"), api.ErrDead)
		dead(t, d)
	}
}

func TestP1_2CrashEndsTheCut(t *testing.T) {
	d := disk.New(1)
	d.Cut(1)
	mustWrite(t, d, 0, "a")
	d.Crash(nil, -1)
	counts(t, d, 1, 0)
	for range 3 {
		mustWrite(t, d, 0, "b")
	}
	d.Cut(0)
	tells(t, "cut", d.Write(0, "c"), api.ErrDead)
	d.Crash(nil, -1)
	mustWrite(t, d, 0, "d")
	mustWrite(t, d, 0, "e")
	reads(t, d, "e")
}

func TestP1_2CrashKeeps(t *testing.T) {
	for _, c := range []struct {
		keep []bool
		want [2]string
	}{
		{nil, [2]string{"old", ""}},
		{[]bool{}, [2]string{"old", ""}},
		{[]bool{false, false, false}, [2]string{"old", ""}},
		{[]bool{true}, [2]string{"1", ""}},
		{[]bool{false, true}, [2]string{"old", "2"}},
		{[]bool{false, false, true}, [2]string{"3", ""}},
		{[]bool{true, true, true}, [2]string{"3", "2"}},
		{[]bool{true, true, false, true}, [2]string{"1", "2"}},
		{[]bool{false, false, false, true, true}, [2]string{"old", ""}},
	} {
		d := disk.New(2)
		mustWrite(t, d, 0, "old")
		mustFlush(t, d)
		mustWrite(t, d, 0, "1")
		mustWrite(t, d, 1, "2")
		mustWrite(t, d, 0, "3")
		keep := slices.Clone(c.keep)
		d.Crash(keep, -1)
		if !slices.Equal(keep, c.keep) {
			t.Errorf("keep %v became %v", c.keep, keep)
		}
		reads(t, d, c.want[0], c.want[1])
		counts(t, d, 4, 0)
	}
}

func TestP1_2CrashTears(t *testing.T) {
	const half = api.SectorSize / 2
	first, second := strings.Repeat("1", api.SectorSize), strings.Repeat("2", api.SectorSize)
	zeros := strings.Repeat("\x00", half)
	old := strings.Repeat("o", api.SectorSize)
	for _, c := range []struct {
		keep []bool
		torn int
		want string
	}{
		{[]bool{true, true, true}, -1, "3"},
		{[]bool{true, true, true}, math.MinInt, "3"},
		{[]bool{true, true, true}, 3, "3"},
		{[]bool{true, true, true, true}, 3, "3"},
		{[]bool{true, true, true}, math.MaxInt, "3"},
		{[]bool{true, true, true}, 2, "3" + zeros[1:] + second[half:]},
		{[]bool{true, false, true}, 2, "3" + zeros[1:] + first[half:]},
		{[]bool{false, false, true}, 2, "3" + zeros[1:] + old[half:]},
		{[]bool{true, true, true}, 1, "3"},
		{[]bool{true, true}, 1, second[:half] + first[half:]},
		{[]bool{false, true}, 1, second[:half] + old[half:]},
		{[]bool{true, true}, 0, second},
		{[]bool{true}, 0, first[:half] + old[half:]},
		{[]bool{false, true}, 0, second},
		{[]bool{true, false}, 1, first},
		{[]bool{true}, 2, first},
		{nil, 0, old},
	} {
		d := disk.New(1)
		mustWrite(t, d, 0, old)
		mustFlush(t, d)
		mustWrite(t, d, 0, first)
		mustWrite(t, d, 0, second)
		mustWrite(t, d, 0, "3")
		d.Crash(c.keep, c.torn)
		if got, err := d.Read(0); got != filled(c.want) || err != nil {
			t.Errorf("keep %v, torn %d: %q, %v, want %q", c.keep, c.torn, got, err, c.want)
		}
		counts(t, d, 4, 0)
	}
}

func TestP1_2CrashWithNothingLoose(t *testing.T) {
	d := disk.New(2)
	d.Crash([]bool{true, true}, 0)
	reads(t, d, "", "")
	counts(t, d, 0, 0)
	mustWrite(t, d, 1, "a")
	mustFlush(t, d)
	d.Crash([]bool{true, true}, 0)
	d.Crash(nil, -1)
	reads(t, d, "", "a")
	counts(t, d, 1, 0)
}

func TestP1_3FlushedLasts(t *testing.T) {
	d := disk.New(3)
	mustWrite(t, d, 0, "gone")
	mustWrite(t, d, 0, "a")
	mustWrite(t, d, 2, "c")
	mustFlush(t, d)
	for range 3 {
		mustWrite(t, d, 0, "loose")
		mustWrite(t, d, 1, "loose")
		d.Cut(0)
		tells(t, "cut", d.Write(2, "never"), api.ErrDead)
		tells(t, "flush without power", d.Flush(), api.ErrDead)
		d.Crash(nil, 0)
		reads(t, d, "a", "", "c")
	}
}

// What a crash kept is on the disk for good, as what was flushed is.
func TestP1_3WhatACrashKeptLasts(t *testing.T) {
	d := disk.New(2)
	mustWrite(t, d, 0, "a")
	mustWrite(t, d, 1, "b")
	d.Crash([]bool{true}, -1)
	reads(t, d, "a", "")
	mustWrite(t, d, 0, "c")
	d.Crash(nil, -1)
	reads(t, d, "a", "")
}

func TestDiskOfNoNew(t *testing.T) {
	var d disk.Disk
	tells(t, "write", d.Write(0, ""), api.ErrFull)
	_, err := d.Read(0)
	tells(t, "read", err, api.ErrFull)
	d.Cut(0)
	d.Crash([]bool{true}, 0)
	mustFlush(t, &d)
	if d.Len() != 0 {
		t.Errorf("len %d", d.Len())
	}
}

func Example() {
	d := disk.New(1)
	d.Write(0, "lost")
	d.Crash(nil, -1)
	b, err := d.Read(0)
	fmt.Println(b == strings.Repeat("\x00", api.SectorSize), err)
	// Output: true <nil>
}
