package frame_test

import (
	"encoding/binary"
	"hash/crc32"
	"math/rand"
	"strings"
	"testing"

	"vademecum/api"
	"vademecum/frame"
)

// modelWrap is Wrap told by the library's own numbers and sums.
func modelWrap(seq int, s string) string {
	inner := binary.AppendUvarint(nil, uint64(max(seq, 0)))
	inner = append(inner, s...)
	b := binary.AppendUvarint(nil, uint64(len(inner)))
	b = append(b, inner...)
	return string(binary.LittleEndian.AppendUint32(b, crc32.ChecksumIEEE(b)))
}

// modelNumber is the number at the front of s, how many bytes it has, and what is wrong with it.
func modelNumber(s string) (int, int, api.Errno) {
	for i := range len(s) {
		switch {
		case i > 0 && s[i] == 0, i == 7 && s[i] > 127:
			return 0, 0, api.ErrForm
		case s[i] < 128:
			n, size := binary.Uvarint([]byte(s))
			return int(n), size, api.OK
		}
	}
	return 0, 0, api.ErrShort
}

// modelOpen is Open by the places in s, each fault by the first of the chapter's row.
func modelOpen(s string, seq int) (string, string, api.Errno) {
	size, from, why := modelNumber(s)
	to := from + size
	switch {
	case why != api.OK:
		return "", s, why
	case size > 2020:
		return "", s, api.ErrLarge
	case len(s) < to+4:
		return "", s, api.ErrShort
	case crc32.ChecksumIEEE([]byte(s[:to])) != binary.LittleEndian.Uint32([]byte(s[to:])):
		return "", s, api.ErrSpoilt
	}
	n, seqSize, why := modelNumber(s[from:to])
	switch {
	case why != api.OK:
		return "", s, why
	case n != seq:
		return "", s, api.ErrForm
	}
	return s[from+seqSize : to], s[to+4:], api.OK
}

// agrees holds Open on s against the model, and what is opened against what is wrapped.
func agrees(t *testing.T, s string, seq int) api.Errno {
	t.Helper()
	text, rest, why := modelOpen(s, seq)
	opens(t, s, seq, text, rest, why)
	if why == api.OK && frame.Wrap(seq, text)+rest != s {
		t.Errorf("open %q, %d: %q is wrapped as %q", s, seq, text, frame.Wrap(seq, text))
	}
	return why
}

// randomText is at most so many bytes, of few kinds so that numbers end and go on.
func randomText(r *rand.Rand, below int) string {
	kinds := "\x00\x01\x02\x05\x7f\x80\x81\xff" + string([]byte{byte(r.Intn(256))})
	b := make([]byte, r.Intn(below))
	for i := range b {
		b[i] = kinds[r.Intn(len(kinds))]
	}
	return string(b)
}

func TestP3_1SumIsTheLibrarys(t *testing.T) {
	for b := range 256 {
		for _, s := range []string{string([]byte{byte(b)}), strings.Repeat(string([]byte{byte(b)}), 67)} {
			if got, want := frame.Sum(s), crc32.ChecksumIEEE([]byte(s)); got != want {
				t.Errorf("sum of %q: %#x, want %#x", s, got, want)
			}
		}
	}
	r := rand.New(rand.NewSource(3))
	for range 2000 {
		b := make([]byte, r.Intn(400))
		r.Read(b)
		if got, want := frame.Sum(string(b)), crc32.ChecksumIEEE(b); got != want {
			t.Errorf("sum of %q: %#x, want %#x", b, got, want)
		}
	}
}

func TestP3_1WrapIsTheModels(t *testing.T) {
	r := rand.New(rand.NewSource(31))
	for range 2000 {
		seq, s := r.Int()>>r.Intn(64)-r.Intn(3), randomText(r, 200)
		if got, want := frame.Wrap(seq, s), modelWrap(seq, s); got != want {
			t.Errorf("wrap %d, %q: %q, want %q", seq, s, got, want)
		}
	}
}

// TestP3_1OpenIsTheModels opens frames of right sums around texts of any form, whole, changed and cut off.
func TestP3_1OpenIsTheModels(t *testing.T) {
	r := rand.New(rand.NewSource(32))
	seen := map[api.Errno]int{}
	for range 40000 {
		b := []byte(randomText(r, 12))
		if r.Intn(4) > 0 {
			b = append(binary.AppendUvarint(nil, uint64(len(b))), b...)
		}
		if r.Intn(4) > 0 {
			b = binary.LittleEndian.AppendUint32(b, crc32.ChecksumIEEE(b))
		}
		s := string(b) + randomText(r, 4)
		if r.Intn(4) == 0 {
			s = s[:r.Intn(len(s)+1)]
		}
		seen[agrees(t, s, r.Intn(4)-1)]++
	}
	for _, why := range []api.Errno{api.OK, api.ErrForm, api.ErrShort, api.ErrSpoilt, api.ErrLarge} {
		if seen[why] < 100 {
			t.Errorf("%v: only %d of what was opened", why, seen[why])
		}
	}
}

// unread holds that Open takes nothing from what was spoilt; which error it tells hangs on what the size has become, so that the model says it.
func unread(t *testing.T, s string, seq int) {
	t.Helper()
	if why := agrees(t, s, seq); why == api.OK {
		t.Errorf("open %q, %d: spoilt, and read", s, seq)
	}
}

func TestP3_2EveryBit(t *testing.T) {
	for _, seq := range []int{0, 1, 300, 1000000} {
		for _, s := range []string{"", "a", "\x00\x00", "record", strings.Repeat("r", 140)} {
			b := frame.Wrap(seq, s)
			for bit := range 8 * len(b) {
				x := []byte(b)
				x[bit/8] ^= 1 << (bit % 8)
				unread(t, string(x), seq)
				unread(t, string(x)+b, seq)
			}
		}
	}
}

func TestP3_2EveryByte(t *testing.T) {
	b := frame.Wrap(1000007, "a record")
	for k := range len(b) {
		for turn := 1; turn < 256; turn++ {
			x := []byte(b)
			x[k] ^= byte(turn)
			unread(t, string(x)+strings.Repeat("\x00", 64), 1000007)
		}
	}
}

// TestP3_2Torn opens frames of which the bytes from some place on are what was there before.
func TestP3_2Torn(t *testing.T) {
	b := frame.Wrap(1000007, "a record that lies on more than a sector or two of a disk, as most of them do not")
	before := frame.Wrap(7, "another record, of another generation, as it comes to lie in the same place of the half")
	for cut := range len(b) - 1 {
		for _, old := range []string{strings.Repeat("\x00", 128), strings.Repeat("\xff", 128), before + before} {
			if torn := b[:cut] + old[cut:]; !strings.HasPrefix(torn, b) {
				unread(t, torn, 1000007)
			}
		}
	}
}

// TestP3_2Bursts spoils up to four bytes that lie together: a sum of 32 bits tells each such change.
func TestP3_2Bursts(t *testing.T) {
	r := rand.New(rand.NewSource(33))
	b := frame.Wrap(42, strings.Repeat("burst ", 40))
	for range 20000 {
		x := []byte(b)
		from := 2 + r.Intn(len(b)-5)
		for k := from; k < from+4; k++ {
			x[k] ^= byte(r.Intn(256))
		}
		if string(x) == b {
			continue
		}
		refuses(t, string(x), 42, api.ErrSpoilt)
	}
}
