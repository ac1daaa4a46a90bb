package lex

import "strings"

// first is how many bytes the word at the front has: 0, if none begins there.
func first(s string) int {
	size := 0
	switch {
	case isPlain(s[0]):
		size = run(s)
	case isPair(s):
		size++
		fallthrough
	case isMark(s[0]):
		size++
	}
	return size
}

// run is how many bytes of the front, which begins with a plain one, are of one word.
func run(s string) int {
	size := 1
	for size < len(s) && (isPlain(s[size]) || joins(s[size:])) {
		size++
	}
	return size
}

// joins tells whether a point at the front goes on with the word ahead: what is ahead of it within a run is plain, as no point joins that has a point behind it.
func joins(s string) bool { return len(s) > 1 && s[0] == '.' && isPlain(s[1]) }

// isPair tells whether there are two bytes at the front that are one word, whatever each of them is alone.
func isPair(s string) bool {
	return strings.HasPrefix(s, ":=") || strings.HasPrefix(s, "=>") || strings.HasPrefix(s, "->")
}

// isMark tells whether a byte is a word of its own.
func isMark(c byte) bool { return strings.IndexByte("(){}:,;.", c) >= 0 }

// isPlain tells whether a byte is one of runs, wherever it stands.
func isPlain(c byte) bool {
	return 'a' <= c && c <= 'z' || 'A' <= c && c <= 'Z' || '0' <= c && c <= '9' || c == '_' || c == '@'
}
