package pack_test

import (
	"errors"
	"fmt"
	"math"
	"strings"
	"testing"

	"vademecum/api"
	"vademecum/pack"
)

// tells holds an error against a number, by errors.Is and by errors.As.
func tells(t *testing.T, what string, err error, want api.Errno) {
	t.Helper()
	if want == api.OK {
		if err != nil {
			t.Errorf("%s: %v, want none", what, err)
		}
		return
	}
	var n api.Errno
	if !errors.Is(err, want) || !errors.As(err, &n) || n != want {
		t.Errorf("%s: %v, want %v", what, err, want)
	}
}

// takes holds one Take against what it should answer.
func takes(t *testing.T, s string, n int, rest string, why api.Errno) {
	t.Helper()
	gotN, gotRest, err := pack.Take(s)
	if gotN != n || gotRest != rest {
		t.Errorf("take %q: %d, %q; want %d, %q", s, gotN, gotRest, n, rest)
	}
	tells(t, fmt.Sprintf("take %q", s), err, why)
}

// takesText holds one TakeText against what it should answer.
func takesText(t *testing.T, s string, most int, text, rest string, why api.Errno) {
	t.Helper()
	gotText, gotRest, err := pack.TakeText(s, most)
	if gotText != text || gotRest != rest {
		t.Errorf("take text %q, %d: %q, %q; want %q, %q", s, most, gotText, gotRest, text, rest)
	}
	tells(t, fmt.Sprintf("take text %q, %d", s, most), err, why)
}

// ones is so many bytes that each tell that another one follows, all bits set.
func ones(n int) string { return strings.Repeat("\xff", n) }

// more is so many bytes that each tell that another one follows, no bit set.
func more(n int) string { return strings.Repeat("\x80", n) }

func TestP2_1Num(t *testing.T) {
	for _, c := range []struct {
		n    int
		want string
	}{
		{0, "\x00"}, {1, "\x01"}, {65, "A"}, {126, "\x7e"}, {127, "\x7f"},
		{128, "\x80\x01"}, {129, "\x81\x01"}, {255, "\xff\x01"}, {256, "\x80\x02"}, {300, "\xac\x02"},
		{1<<14 - 1, "\xff\x7f"}, {1 << 14, "\x80\x80\x01"}, {1<<14 + 128, "\x80\x81\x01"},
		{1<<21 - 1, "\xff\xff\x7f"}, {1 << 21, "\x80\x80\x80\x01"},
		{1<<49 - 1, ones(6) + "\x7f"}, {1 << 49, more(7) + "\x01"},
		{1<<56 - 1, ones(7) + "\x7f"}, {1 << 56, more(8) + "\x01"},
		{math.MaxInt64, ones(8) + "\x7f"},
		{-1, "\x00"}, {-128, "\x00"}, {math.MinInt64, "\x00"},
	} {
		if got := pack.Num(c.n); got != c.want {
			t.Errorf("num %d: %q, want %q", c.n, got, c.want)
		}
	}
}

func TestP2_1TakeNumber(t *testing.T) {
	for _, c := range []struct {
		s    string
		n    int
		rest string
	}{
		{"\x00", 0, ""}, {"\x00\x00", 0, "\x00"}, {"\x01", 1, ""}, {"\x7f\x80", 127, "\x80"},
		{"\x80\x01", 128, ""}, {"\xac\x02rest", 300, "rest"}, {"\x80\x01\x00", 128, "\x00"},
		{"\x80\x80\x01\xff", 1 << 14, "\xff"},
		{more(7) + "\x01", 1 << 49, ""}, {ones(7) + "\x7f" + ones(9), 1<<56 - 1, ones(9)},
	} {
		takes(t, c.s, c.n, c.rest, api.OK)
	}
}

func TestP2_1TakeRefuses(t *testing.T) {
	for _, c := range []struct {
		s    string
		want api.Errno
	}{
		{"", api.ErrShort}, {"\x80", api.ErrShort}, {"\xff", api.ErrShort}, {"\x80\x81", api.ErrShort},
		{more(7), api.ErrShort}, {ones(7), api.ErrShort},
		{"\x80\x00", api.ErrForm}, {"\xff\x00", api.ErrForm}, {"\x80\x00\x01", api.ErrForm},
		{"\x81\x81\x00rest", api.ErrForm}, {more(7) + "\x00", api.ErrForm}, {more(6) + "\x00", api.ErrForm},
		{more(8), api.ErrForm}, {ones(8), api.ErrForm}, {more(8) + "\x01", api.ErrForm}, {ones(8) + "\x7f", api.ErrForm},
		{ones(100), api.ErrForm},
	} {
		takes(t, c.s, 0, c.s, c.want)
	}
}

func TestP2_1Text(t *testing.T) {
	long := strings.Repeat("q", 300)
	for _, c := range []struct{ s, want string }{
		{"", "\x00"}, {"a", "\x01a"}, {"\x00", "\x01\x00"}, {"é", "\x02\xc3\xa9"}, {"\xff\xfe", "\x02\xff\xfe"},
		{long[:127], "\x7f" + long[:127]}, {long[:128], "\x80\x01" + long[:128]}, {long, "\xac\x02" + long},
	} {
		if got := pack.Text(c.s); got != c.want {
			t.Errorf("text %q: %q, want %q", c.s, got, c.want)
		}
	}
}

func TestP2_1TakeText(t *testing.T) {
	long := strings.Repeat("q", 300)
	for _, c := range []struct {
		s          string
		most       int
		text, rest string
	}{
		{"\x00", 0, "", ""}, {"\x00rest", 0, "", "rest"}, {"\x01a", 1, "a", ""}, {"\x01ab", 1, "a", "b"},
		{"\x02\xc3\xa9\x00", 3, "\xc3\xa9", "\x00"}, {"\x01\x80", math.MaxInt, "\x80", ""},
		{"\xac\x02" + long, 300, long, ""}, {"\xac\x02" + long + "z", 301, long, "z"},
	} {
		takesText(t, c.s, c.most, c.text, c.rest, api.OK)
	}
}

func TestP2_1TakeTextRefuses(t *testing.T) {
	for _, c := range []struct {
		s    string
		most int
		want api.Errno
	}{
		{"", 5, api.ErrShort}, {"\x80", 5, api.ErrShort}, {"\x80\x00a", 5, api.ErrForm}, {ones(8) + "a", 5, api.ErrForm},
		{"\x02ab", 1, api.ErrLarge}, {"\x01a", 0, api.ErrLarge}, {"\x01a", -1, api.ErrLarge},
		{"\x00", -1, api.ErrLarge}, {"\x00", math.MinInt, api.ErrLarge},
		{"\x01", 1, api.ErrShort}, {"\x03ab", 3, api.ErrShort}, {"\x80\x01a", 128, api.ErrShort},
		{ones(7) + "\x7f", 1<<56 - 1, api.ErrShort}, {ones(7) + "\x7fa", math.MaxInt, api.ErrShort},
		// The errors in their order: those of Take ahead of all, too many ahead of too few.
		{"", -1, api.ErrShort}, {"\x80\x00", -1, api.ErrForm},
		{"\x03ab", 2, api.ErrLarge}, {ones(7) + "\x7f", 0, api.ErrLarge},
	} {
		takesText(t, c.s, c.most, "", c.s, c.want)
	}
}

func TestP2_1ErrorsTellWhatAndWhere(t *testing.T) {
	_, _, number := pack.Take("\x80\x00")
	_, _, size := pack.TakeText("\x80\x00", 9)
	_, _, large := pack.TakeText("\x02ab", 1)
	_, _, short := pack.TakeText("\x03ab", 3)
	for _, c := range []struct {
		err  error
		want string
	}{
		{number, "pack: number, byte 1: error 10"},
		{size, "pack: text, byte 1: error 10"},
		{large, "pack: text, byte 0: error 13"},
		{short, "pack: text, byte 3: error 11"},
	} {
		if c.err == nil || c.err.Error() != c.want {
			t.Errorf("%v, want %s", c.err, c.want)
		}
	}
}

func Example() {
	s := pack.Num(128) + pack.Text("one") + pack.Text("two")
	n, s, _ := pack.Take(s)
	one, s, _ := pack.TakeText(s, 10)
	_, s, err := pack.TakeText(s, 2)
	fmt.Println(n, one, len(s), errors.Is(err, api.ErrLarge))
	// Output: 128 one 4 true
}
