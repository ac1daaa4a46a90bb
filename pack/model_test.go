package pack_test

import (
	"math/big"
	"math/rand"
	"strings"
	"testing"

	"vademecum/api"
	"vademecum/pack"
)

// modelTake is Take told another way: the bytes up to the first below 128 are digits to the base of 128.
func modelTake(s string) (int, string, api.Errno) {
	for i := range len(s) {
		if s[i] == 0 && i > 0 || i == 7 && s[i] > 127 {
			return 0, s, api.ErrForm
		}
		if s[i] > 127 {
			continue
		}
		n := new(big.Int)
		for k := i; k >= 0; k-- {
			n.Mul(n, big.NewInt(128))
			n.Add(n, big.NewInt(int64(s[k]%128)))
		}
		return int(n.Int64()), s[i+1:], api.OK
	}
	return 0, s, api.ErrShort
}

// modelTakeText is TakeText by modelTake.
func modelTakeText(s string, most int) (string, string, api.Errno) {
	n, rest, why := modelTake(s)
	switch {
	case why != api.OK:
		return "", s, why
	case n > most:
		return "", s, api.ErrLarge
	case n > len(rest):
		return "", s, api.ErrShort
	}
	return rest[:n], rest[n:], api.OK
}

// agrees holds the calls on s against the model, and what was taken against what puts it.
func agrees(t *testing.T, s string) {
	t.Helper()
	n, rest, why := modelTake(s)
	takes(t, s, n, rest, why)
	if why == api.OK && pack.Num(n)+rest != s {
		t.Errorf("take %q: %d is put as %q", s, n, pack.Num(n))
	}
	for most := -1; most < 4; most++ {
		text, rest, why := modelTakeText(s, most)
		takesText(t, s, most, text, rest, why)
		if why == api.OK && pack.Text(text)+rest != s {
			t.Errorf("take text %q: %q is put as %q", s, text, pack.Text(text))
		}
	}
}

func TestP2_1EveryShortText(t *testing.T) {
	texts := []string{""}
	for range 6 {
		for _, s := range texts {
			for _, lead := range []string{"", "\x83", more(3), ones(5)} {
				agrees(t, lead+s)
			}
		}
		var longer []string
		for _, s := range texts {
			for _, b := range []string{"\x00", "\x01", "\x7f", "\x80", "\xff"} {
				longer = append(longer, s+b)
			}
		}
		texts = longer
	}
}

func TestP2_1RandomBytes(t *testing.T) {
	r := rand.New(rand.NewSource(2))
	for range 20000 {
		b := make([]byte, r.Intn(12))
		for i := range b {
			b[i] = byte(r.Intn(256))
			if r.Intn(3) > 0 {
				b[i] |= 128
			}
		}
		agrees(t, string(b))
	}
}

func TestP2_2NumbersAreTaken(t *testing.T) {
	var numbers []int
	for n := range 20000 {
		numbers = append(numbers, n)
	}
	for bit := range 56 {
		numbers = append(numbers, 1<<bit-1, 1<<bit, 1<<bit+1)
	}
	numbers = append(numbers, 1<<56-1)
	for _, n := range numbers {
		for _, behind := range []string{"", "\x00", "\xff", "text"} {
			takes(t, pack.Num(n)+behind, n, behind, api.OK)
		}
	}
	for _, n := range []int{-1, -1 << 63} {
		takes(t, pack.Num(n)+"z", 0, "z", api.OK)
	}
}

func TestP2_2TextsAreTaken(t *testing.T) {
	long := strings.Repeat("\x00\xffz", 7000)
	for size := range 300 {
		for _, behind := range []string{"", "\x00", "text"} {
			takesText(t, pack.Text(long[:size])+behind, size, long[:size], behind, api.OK)
			if size > 0 {
				put := pack.Text(long[:size]) + behind
				takesText(t, put, size-1, "", put, api.ErrLarge)
			}
		}
	}
	takesText(t, pack.Text(long)+"z", len(long), long, "z", api.OK)
}

func TestP2_2CutOffIsShort(t *testing.T) {
	for _, s := range []string{"", "a", strings.Repeat("x", 127), strings.Repeat("x", 130)} {
		put := pack.Text(s)
		for cut := range len(put) {
			takesText(t, put[:cut], len(s), "", put[:cut], api.ErrShort)
		}
	}
}

// TestP2_2RowsAreTaken puts rows of numbers and texts behind one another, and takes them again.
func TestP2_2RowsAreTaken(t *testing.T) {
	r := rand.New(rand.NewSource(22))
	for range 300 {
		numbers := make([]int, r.Intn(8))
		texts := make([]string, len(numbers))
		var b strings.Builder
		for i := range numbers {
			numbers[i] = r.Int() >> (7 + r.Intn(56))
			texts[i] = strings.Repeat("\x80", r.Intn(200))
			b.WriteString(pack.Num(numbers[i]) + pack.Text(texts[i]))
		}
		s := b.String()
		for i := range numbers {
			rest := s[len(pack.Num(numbers[i])):]
			takes(t, s, numbers[i], rest, api.OK)
			s = rest[len(pack.Text(texts[i])):]
			takesText(t, rest, 200, texts[i], s, api.OK)
		}
		if s != "" {
			t.Errorf("%q is left", s)
		}
	}
}
