package lex_test

import (
	"math/rand"
	"slices"
	"strings"
	"testing"

	"vademecum/api"
	"vademecum/lex"
)

const (
	plain = "abcdefghijklmnopqrstuvwxyzABCDEFGHIJKLMNOPQRSTUVWXYZ0123456789_@"
	marks = "(){}:,;."
)

// has tells whether a text has the byte at a place of another one.
func has(bytes, s string, at int) bool {
	return 0 <= at && at < len(s) && strings.Contains(bytes, string(rune(s[at])))
}

// modelWords is Words told another way: first what each byte is, then what is between two words.
func modelWords(s string) ([]string, api.Errno) {
	if len(s) > 2000 {
		return nil, api.ErrLarge
	}
	what := make([]byte, len(s)) // w: of a run; s: begins a sign; e: ends one; space
	for i := range len(s) {
		switch {
		case what[i] == 'e':
		case has(plain, s, i), s[i] == '.' && has(plain, s, i-1) && has(plain, s, i+1):
			what[i] = 'w'
		case slices.Contains([]string{":=", "=>", "->"}, s[i:min(i+2, len(s))]):
			what[i], what[i+1] = 's', 'e'
		case has(marks, s, i):
			what[i] = 's'
		case has(" \t\n\r", s, i):
			what[i] = ' '
		default:
			return nil, api.ErrForm
		}
	}
	var words []string
	for i := range len(s) {
		switch {
		case what[i] == 's', what[i] == 'w' && (i == 0 || what[i-1] != 'w'):
			words = append(words, s[i:i+1])
		case what[i] == 'w', what[i] == 'e':
			words[len(words)-1] += s[i : i+1]
		}
	}
	return words, api.OK
}

// agrees holds Words against the model, and what it tells against the text.
func agrees(t *testing.T, s string) []string {
	t.Helper()
	words, why := modelWords(s)
	holds(t, s, strings.Join(words, "|"), why)
	got, err := lex.Words(s)
	if err != nil {
		return nil
	}
	// Nothing is lost but blanks.
	if strings.Join(got, "") != strings.Join(strings.FieldsFunc(s, func(r rune) bool { return strings.ContainsRune(" \t\n\r", r) }), "") {
		t.Errorf("words of %q: %q", s, got)
	}
	return got
}

// longer are texts with each of the units behind each of them.
func longer(texts, units []string) []string {
	var l []string
	for _, s := range texts {
		for _, unit := range units {
			l = append(l, s+unit)
		}
	}
	return l
}

func TestP9_1EveryShortText(t *testing.T) {
	texts, told := []string{""}, 0
	for range 6 {
		texts = longer(texts, []string{"a", "7", ".", ":", "=", ">", "-", "(", " "})
		for _, s := range texts {
			told += min(1, len(agrees(t, s)))
		}
		if t.Failed() {
			return
		}
	}
	if told < 70000 {
		t.Errorf("%d texts in words", told)
	}
}

// Every two bytes, ahead of others and behind them.
func TestP9_1EveryByte(t *testing.T) {
	for a := range 256 {
		for b := range 256 {
			s := string([]byte{byte(a), byte(b)})
			for _, ahead := range []string{"", "a", "a.", ":", "-"} {
				for _, behind := range []string{"", "a", ".a", "=", ">"} {
					agrees(t, ahead+s+behind)
				}
			}
		}
		if t.Failed() {
			return
		}
	}
}

// Words said again, with whatever blanks between, are the same words.
func TestP9_2SaidAgain(t *testing.T) {
	r := rand.New(rand.NewSource(9))
	units := []string{"a", "Z9", "_", "@", ".", ".", ":", ":=", "=>", "->", "(", ")", "{", "}", ",", ";", " ", "\n"}
	blanks := []string{" ", "\t", "\n", "\r", "  ", "\r\n"}
	for range 20000 {
		var s, again strings.Builder
		for range r.Intn(60) {
			s.WriteString(units[r.Intn(len(units))])
		}
		words := agrees(t, s.String())
		for _, word := range words {
			again.WriteString(word + blanks[r.Intn(len(blanks))])
			holds(t, word, word, api.OK)
		}
		holds(t, again.String(), strings.Join(words, "|"), api.OK)
		if t.Failed() {
			return
		}
	}
}

func TestP9_1RandomTexts(t *testing.T) {
	r := rand.New(rand.NewSource(99))
	for _, bytes := range []string{plain + marks + ":=->=>  \n", "a.:=->", plain + ".", marks + "=->", "ab01.. :=>-()\xc3\xa4\x00"} {
		for range 4000 {
			s := make([]byte, r.Intn(r.Intn(2100)+1))
			for i := range s {
				s[i] = bytes[r.Intn(len(bytes))]
			}
			agrees(t, string(s))
		}
		if t.Failed() {
			return
		}
	}
}
