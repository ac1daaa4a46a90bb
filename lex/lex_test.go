package lex_test

import (
	"errors"
	"fmt"
	"slices"
	"strings"
	"sync"
	"testing"

	"vademecum/api"
	"vademecum/lex"
)

// tells whether an error tells a number, by errors.Is and by errors.As.
func tells(err error, want api.Errno) bool {
	if want == api.OK {
		return err == nil
	}
	var n api.Errno
	return errors.Is(err, want) && errors.As(err, &n) && n == want
}

// holds holds one Words against what it should answer: words with a bar between.
func holds(t *testing.T, s, want string, why api.Errno) {
	t.Helper()
	words, err := lex.Words(s)
	if got := strings.Join(words, "|"); got != want || want == "" && len(words) > 0 {
		t.Errorf("words of %.60q: %.60q, want %.60q", s, got, want)
	}
	if !tells(err, why) {
		t.Errorf("words of %.60q: %v, want %v", s, err, why)
	}
	if err != nil && words != nil {
		t.Errorf("words of %.60q: a list beside an error", s)
	}
}

func TestP9_1Runs(t *testing.T) {
	for s, want := range map[string]string{
		"a": "a", "z": "z", "A": "A", "Z": "Z", "0": "0", "9": "9", "_": "_", "@": "@",
		"aZ09_@": "aZ09_@", "1a": "1a", "_0": "_0", "@@": "@@", "nat.rec@3": "nat.rec@3", "Type0": "Type0", "007": "007",
		"a b": "a|b", "fun pi let in": "fun|pi|let|in", "axiom nat Type0": "axiom|nat|Type0",
	} {
		holds(t, s, want, api.OK)
	}
}

// A point is of a run only between two bytes of it that are no points.
func TestP9_1Points(t *testing.T) {
	for s, want := range map[string]string{
		".": ".", "..": ".|.", "...": ".|.|.", ". .": ".|.",
		"a.b": "a.b", "a.b.c": "a.b.c", "a.1": "a.1", "1.2": "1.2", "_._": "_._", "@.@": "@.@", "a.b.c.": "a.b.c|.",
		"a.": "a|.", ".a": ".|a", "a.b.": "a.b|.", ".a.b": ".|a.b", "a..b": "a|.|.|b", "a...b": "a|.|.|.|b", "a.b..c.d": "a.b|.|.|c.d",
		"a .b": "a|.|b", "a. b": "a|.|b", "a . b": "a|.|b", "a\n.b": "a|.|b", "a.\tb": "a|.|b",
		"a.(": "a|.|(", "(.a": "(|.|a", "a.:b": "a|.|:|b", "a:.b": "a|:|.|b", "a.:=b": "a|.|:=|b", "a->.b": "a|->|.|b", "a.->b": "a|.|->|b", "a,.b": "a|,|.|b",
	} {
		holds(t, s, want, api.OK)
	}
}

func TestP9_1Signs(t *testing.T) {
	for s, want := range map[string]string{
		"(": "(", ")": ")", "{": "{", "}": "}", ":": ":", ",": ",", ";": ";", ":=": ":=", "=>": "=>", "->": "->",
		"(){}:,;.": "(|)|{|}|:|,|;|.", "::": ":|:", "::=": ":|:=", ":::=:": ":|:|:=|:", ":=:=": ":=|:=", "=>=>->->": "=>|=>|->|->", ":=->": ":=|->", ": =>": ":|=>", "->:=": "->|:=", ":->": ":|->",
		"a:=b.": "a|:=|b|.", "a->b=>c": "a|->|b|=>|c", "a:b": "a|:|b", "fun x:A=>x.": "fun|x|:|A|=>|x|.", "(a(b)c)": "(|a|(|b|)|c|)", "{a:b;c:d}": "{|a|:|b|;|c|:|d|}",
	} {
		holds(t, s, want, api.OK)
	}
}

func TestP9_1Blanks(t *testing.T) {
	for _, blank := range []string{" ", "\t", "\n", "\r", "\r\n", "  ", " \t\n\r "} {
		holds(t, blank, "", api.OK)
		holds(t, blank+"a"+blank+":="+blank+"b"+blank+"."+blank, "a|:=|b|.", api.OK)
		// What is one word isn't one with a blank within.
		holds(t, "a"+blank+"b", "a|b", api.OK)
		holds(t, ":"+blank+":", ":|:", api.OK)
		for _, s := range []string{":" + blank + "=", "=" + blank + ">", "-" + blank + ">"} {
			holds(t, s, "", api.ErrForm)
		}
	}
	holds(t, "", "", api.OK)
}

func TestP9_1OtherBytes(t *testing.T) {
	for _, s := range []string{
		"-", "=", ">", "<", "+", "*", "/", "\\", "\"", "'", "`", "!", "?", "#", "$", "%", "&", "|", "~", "^", "[", "]",
		"\x00", "\v", "\f", "\b", "\x1f", "\x7f", "\x80", "\x85", "\xa0", "\xff", "ä", "é", "→", "\u00a0", "\u2003", "\ufeff", "\u0660",
		"--", "-->", "->>", "=:", "==", "=>>", ":=>", ":==", "=->", "-=>", "- >", "= >",
	} {
		for _, row := range []string{s, "a" + s, s + "a", "a " + s, s + " a", "a." + s + ".a", "(" + s + ")", " " + s + " ", s + strings.Repeat("a", 1900)} {
			holds(t, row, "", api.ErrForm)
		}
	}
}

func TestP9_1AtTheLimit(t *testing.T) {
	for _, row := range []struct{ unit, want string }{{"a", "a"}, {"a.", ""}, {"->", ""}, {"(", ""}, {" ", ""}, {"a ", ""}, {"\xc3\xa4", ""}, {"-", ""}} {
		full := strings.Repeat(row.unit, api.MaxLine/len(row.unit))
		words, err := lex.Words(full)
		ok := row.unit[0] < 128 && row.unit != "-"
		if ok && err != nil || !ok && !tells(err, api.ErrForm) {
			t.Errorf("%q, %d bytes: %v", row.unit, len(full), err)
		}
		if row.want != "" && (len(words) != 1 || words[0] != full) {
			t.Errorf("%q, %d bytes: %d words", row.unit, len(full), len(words))
		}
		for _, more := range []string{"a", " ", ".", "-", "\x00", full, strings.Repeat(full, 30)} {
			holds(t, full+more, "", api.ErrLarge)
			holds(t, more+full, "", api.ErrLarge)
		}
	}
	words, err := lex.Words(strings.Repeat("(", api.MaxLine))
	if len(words) != api.MaxLine || err != nil {
		t.Errorf("%d words, %v", len(words), err)
	}
	words, err = lex.Words(strings.Repeat("a.", api.MaxLine/2))
	if len(words) != 2 || words[1] != "." || err != nil {
		t.Errorf("%d words, %v", len(words), err)
	}
}

func TestP9_1ErrorsTellWhere(t *testing.T) {
	for s, want := range map[string]string{
		"-":                       "lex: byte 0: error 10",
		" \n-":                    "lex: byte 2: error 10",
		"a.b := =":                "lex: byte 7: error 10",
		"a:==b-":                  "lex: byte 3: error 10",
		"aä-":                     "lex: byte 1: error 10",
		strings.Repeat("-", 2001): "lex: byte 2000: error 13",
		strings.Repeat(" ", 9999): "lex: byte 2000: error 13",
	} {
		if _, err := lex.Words(s); err == nil || err.Error() != want {
			t.Errorf("%.60q: %v, want %s", s, err, want)
		}
	}
}

// What is answered is new each time, its spare room too.
func TestP9_1AnswersAreNew(t *testing.T) {
	const s = "axiom a.b : ( c -> d ) ."
	want := strings.Fields(s)
	first, _ := lex.Words(s)
	second, _ := lex.Words(s)
	for _, words := range [][]string{first, second} {
		if !slices.Equal(words, want) {
			t.Fatalf("%q, want %q", words, want)
		}
		words = words[:cap(words)]
		for i := range words {
			words[i] = "spoilt"
		}
	}
	if third, _ := lex.Words(s); !slices.Equal(third, want) {
		t.Errorf("%q, want %q", third, want)
	}
}

func TestP9_2AskedAtOnce(t *testing.T) {
	s := strings.Repeat("fun x.y:(A->B)=>x . ", 90)
	want := strings.Repeat("|fun|x.y|:|(|A|->|B|)|=>|x|.", 90)[1:]
	var all sync.WaitGroup
	for range 8 {
		all.Go(func() {
			for range 50 {
				if words, err := lex.Words(s); strings.Join(words, "|") != want || err != nil {
					t.Error("told otherwise")
				}
			}
		})
	}
	all.Wait()
}

func Example() {
	words, err := lex.Words("def a.b:=fun x:nat=>x.")
	fmt.Printf("%q %v\n", words, err)
	words, err = lex.Words("a - b")
	fmt.Println(len(words), errors.Is(err, api.ErrForm), err)
	// Output:
	// ["def" "a.b" ":=" "fun" "x" ":" "nat" "=>" "x" "."] <nil>
	// 0 true lex: byte 2: error 10
}
