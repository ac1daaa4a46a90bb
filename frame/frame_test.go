package frame_test

import (
	"errors"
	"fmt"
	"math"
	"strings"
	"testing"

	"vademecum/api"
	"vademecum/frame"
	"vademecum/pack"
)

// most: so many bytes the Text of a frame has at most.
const most = api.MaxLine + 20

// summed is text with its sum behind it, whatever text is.
func summed(text string) string {
	n := frame.Sum(text)
	return text + string([]byte{byte(n), byte(n >> 8), byte(n >> 16), byte(n >> 24)})
}

// opens holds one Open against what it should answer.
func opens(t *testing.T, s string, seq int, text, rest string, want api.Errno) {
	t.Helper()
	gotText, gotRest, err := frame.Open(s, seq)
	if gotText != text || gotRest != rest {
		t.Errorf("open %q, %d: %q, %q; want %q, %q", s, seq, gotText, gotRest, text, rest)
	}
	if want == api.OK {
		if err != nil {
			t.Errorf("open %q, %d: %v, want none", s, seq, err)
		}
		return
	}
	var n api.Errno
	if !errors.Is(err, want) || !errors.As(err, &n) || n != want {
		t.Errorf("open %q, %d: %v, want %v", s, seq, err, want)
	}
}

// refuses holds that Open answers an error, and what it was handed.
func refuses(t *testing.T, s string, seq int, want api.Errno) {
	t.Helper()
	opens(t, s, seq, "", s, want)
}

func TestP3_1Sum(t *testing.T) {
	for s, want := range map[string]uint32{
		"":                                 0,
		"\x00":                             0xD202EF8D,
		"\xff":                             0xFF000000,
		"a":                                0xE8B7BE43,
		"abc":                              0x352441C2,
		"123456789":                        0xCBF43926,
		strings.Repeat("\x00", 32):         0x190A55AD,
		strings.Repeat("\xff", 32):         0xFF6CAB0B,
		"\xff\xff\xff\xff":                 0xFFFFFFFF,
		"\x00\x00\x00\x00":                 0x2144DF1C,
		"\x00\x00\x00\x00\x00":             0xC622F71D,
		strings.Repeat("1234567890", 8):    0x7CA94A72,
		"abcdefghijklmnopqrstuvwxyz":       0x4C2750BD,
		"message digest":                   0x20159D7F,
		"The quick brown fox jumps over t": 0x61EC978D,
	} {
		if got := frame.Sum(s); got != want {
			t.Errorf("sum of %q: %#x, want %#x", s, got, want)
		}
	}
}

func TestP3_1Wrap(t *testing.T) {
	long := strings.Repeat("q", 127)
	for _, c := range []struct {
		seq  int
		s    string
		text string
	}{
		{0, "", "\x01\x00"},
		{1, "ab", "\x03\x01ab"},
		{127, "", "\x01\x7f"},
		{128, "a", "\x03\x80\x01a"},
		{1000000, "\x00\xff", "\x05\xc0\x84\x3d\x00\xff"},
		{5, long[:126], "\x7f\x05" + long[:126]},
		{5, long, "\x80\x01\x05" + long},
		{1<<56 - 1, "z", "\x09\xff\xff\xff\xff\xff\xff\xff\x7fz"},
		{1 << 56, "z", "\x0a\x80\x80\x80\x80\x80\x80\x80\x80\x01z"},
		{-1, "z", "\x02\x00z"},
		{math.MinInt, "", "\x01\x00"},
	} {
		if got := frame.Wrap(c.seq, c.s); got != summed(c.text) {
			t.Errorf("wrap %d, %q: %q, want %q", c.seq, c.s, got, summed(c.text))
		}
	}
}

func TestP3_1WrapTellsTheLowestByteFirst(t *testing.T) {
	// The sum of 01 00 by zlib: 0x58C223BE.
	if got := frame.Wrap(0, ""); got != "\x01\x00\xbe\x23\xc2\x58" {
		t.Errorf("wrap 0: %q", got)
	}
}

func TestP3_1Open(t *testing.T) {
	for _, seq := range []int{0, 1, 127, 128, 999999, 1000000, 1<<32 + 7, 1<<56 - 1} {
		for _, s := range []string{"", "a", "\x00", "\xff\xfe", "frame", strings.Repeat("q", 300), frame.Wrap(seq, "within")} {
			for _, behind := range []string{"", "\x00", "\xff", "more", frame.Wrap(seq+1, "next"), strings.Repeat("\x00", 5000)} {
				opens(t, frame.Wrap(seq, s)+behind, seq, s, behind, api.OK)
			}
		}
	}
}

func TestP3_1OpenRowOfFrames(t *testing.T) {
	var b strings.Builder
	for seq := range 300 {
		b.WriteString(frame.Wrap(seq, strings.Repeat("r", seq)))
	}
	s := b.String() + "\x00\x00"
	for seq := range 300 {
		text, rest, err := frame.Open(s, seq)
		if err != nil || text != strings.Repeat("r", seq) {
			t.Fatalf("frame %d: %q, %v", seq, text, err)
		}
		s = rest
	}
	refuses(t, s, 300, api.ErrShort)
}

func TestP3_1OpenLargest(t *testing.T) {
	for _, seq := range []int{0, 128, 1 << 49} {
		room := most - len(pack.Num(seq))
		full := strings.Repeat("x", room)
		for _, behind := range []string{"", "more"} {
			opens(t, frame.Wrap(seq, full)+behind, seq, full, behind, api.OK)
			refuses(t, frame.Wrap(seq, full+"x")+behind, seq, api.ErrLarge)
		}
	}
	refuses(t, pack.Num(1<<56-1), 0, api.ErrLarge)
	// Too large is told ahead of bytes that lack, and of another sum.
	refuses(t, pack.Num(most+1), 0, api.ErrLarge)
	refuses(t, pack.Text(strings.Repeat("x", most+1))+"wrong", 0, api.ErrLarge)
	refuses(t, pack.Num(most), 0, api.ErrShort)
}

func TestP3_1OpenIllFormed(t *testing.T) {
	for _, s := range []string{"\x80\x00", "\x80\x00zzzzzzzz", "\xff\x80\x00", strings.Repeat("\xff", 8), strings.Repeat("\x80", 7) + "\x00"} {
		refuses(t, s, 0, api.ErrForm)
		refuses(t, summed(s), 0, api.ErrForm)
	}
}

func TestP3_1OpenCutOff(t *testing.T) {
	for _, size := range []int{0, 1, 2, 126, 127, most - 4} {
		b := frame.Wrap(1000, strings.Repeat("c", size))
		for cut := range len(b) {
			refuses(t, b[:cut], 1000, api.ErrShort)
			refuses(t, b[:cut], -1, api.ErrShort)
		}
	}
}

func TestP3_1OpenAnotherSum(t *testing.T) {
	refuses(t, "\x03\x01ab\x00\x00\x00\x00", 1, api.ErrSpoilt)
	refuses(t, strings.Repeat("\x00", api.SectorSize), 0, api.ErrSpoilt)
	refuses(t, strings.Repeat("\x00", 5), 0, api.ErrSpoilt)
	b := frame.Wrap(1, "ab")
	turned := b[:len(b)-4] + string([]byte{b[len(b)-1], b[len(b)-2], b[len(b)-3], b[len(b)-4]})
	refuses(t, turned, 1, api.ErrSpoilt)
	// Another sum is told ahead of what the Text is.
	for _, text := range []string{"", "\x80", "\x80\x00", "\x02ab"} {
		b := []byte(summed(pack.Text(text)))
		b[len(b)-1] ^= 1
		refuses(t, string(b), 1, api.ErrSpoilt)
		refuses(t, string(b), -1, api.ErrSpoilt)
	}
}

func TestP3_1OpenWithoutSeq(t *testing.T) {
	for _, c := range []struct {
		text string
		want api.Errno
	}{
		{"", api.ErrShort}, {"\x80", api.ErrShort}, {strings.Repeat("\xff", 7), api.ErrShort},
		{"\x80\x00", api.ErrForm}, {"\x80\x00record", api.ErrForm},
		{strings.Repeat("\x80", 8) + "\x01", api.ErrForm}, {strings.Repeat("\x80", 7) + "\x00", api.ErrForm},
	} {
		for _, seq := range []int{-1, 0, 1, 1 << 56} {
			refuses(t, summed(pack.Text(c.text)), seq, c.want)
			refuses(t, summed(pack.Text(c.text))+"more", seq, c.want)
		}
	}
}

func TestP3_1OpenAnotherSeq(t *testing.T) {
	for _, c := range []struct{ wrapped, asked int }{
		{0, 1}, {1, 0}, {127, 128}, {128, 0}, {1000000, 1000001}, {2000000, 1000000}, {1 << 32, 0}, {1<<56 - 1, -1},
		{0, -1}, {0, math.MinInt}, {1, -1}, {-1, -1}, {-7, -7}, {math.MinInt, math.MinInt}, {0, math.MaxInt},
		// A seq that Num puts in more bytes than Take takes is never one that is read.
		{1 << 56, 1 << 56}, {math.MaxInt, math.MaxInt},
	} {
		refuses(t, frame.Wrap(c.wrapped, "record"), c.asked, api.ErrForm)
		refuses(t, frame.Wrap(c.wrapped, "")+"more", c.asked, api.ErrForm)
	}
	opens(t, frame.Wrap(-1, "record"), 0, "record", "", api.OK)
}

func TestP3_1ErrorsTellWhatWasFound(t *testing.T) {
	spoilt := "\x02\x05a\x00\x00\x00\x00"
	for _, c := range []struct{ s, want string }{
		{"", "frame: cut off: pack: text, byte 0: error 11"},
		{"\x02\x05azzz", "frame: cut off: error 11"},
		{"\x80\x00", "frame: no frame: pack: text, byte 1: error 10"},
		{pack.Num(most + 1), "frame: no frame: pack: text, byte 0: error 13"},
		{spoilt, "frame: another sum: error 12"},
		{summed("\x00"), "frame: no seq: pack: number, byte 0: error 11"},
		{frame.Wrap(5, "a"), "frame: another seq: error 10"},
	} {
		if _, _, err := frame.Open(c.s, 6); err == nil || err.Error() != c.want {
			t.Errorf("open %q: %v, want %s", c.s, err, c.want)
		}
	}
}

func Example() {
	log := frame.Wrap(7, "one") + frame.Wrap(8, "two")
	one, log, _ := frame.Open(log, 7)
	_, _, other := frame.Open(log, 7)
	two, log, _ := frame.Open(log, 8)
	_, _, none := frame.Open(log, 9)
	fmt.Println(one, two, errors.Is(other, api.ErrForm), errors.Is(none, api.ErrShort))
	fmt.Printf("%X\n", frame.Sum("123456789"))
	// Output:
	// one two true true
	// CBF43926
}
