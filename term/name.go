package term

import "strings"

// isPart tells whether a text may stand between the points of a name.
func isPart(s string) bool {
	for i := range len(s) {
		if !isLetter(s[i]) && (i == 0 || !isDigit(s[i]) && s[i] != '_') {
			return false
		}
	}
	return s != ""
}

// isLetter tells whether a byte is a letter.
func isLetter(c byte) bool { return 'a' <= c && c <= 'z' || 'A' <= c && c <= 'Z' }

// isDigit tells whether a byte is a digit.
func isDigit(c byte) bool { return '0' <= c && c <= '9' }

// isKeyword tells whether a name is one that no constant has, as it says something else in a text.
func isKeyword(s string) bool {
	switch s {
	case "fun", "pi", "let", "in":
		return true
	}
	sort, ok := strings.CutPrefix(s, "Type")
	return ok && len(sort) == 1 && isDigit(sort[0])
}
