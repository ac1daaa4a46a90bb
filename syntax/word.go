package syntax

import (
	"vademecum/api"
	"vademecum/term"
)

// isBindable tells whether a word may name a variable.
func isBindable(word string) bool {
	if word == "" || len(word) > api.MaxName || isKeyword(word) {
		return false
	}
	for i := range len(word) {
		switch c := word[i]; {
		case '0' <= c && c <= '9':
			if i == 0 {
				return false
			}
			fallthrough
		case 'a' <= c && c <= 'z', 'A' <= c && c <= 'Z', c == '_':
		default:
			return false
		}
	}
	return true
}

// isKeyword tells whether a word is a name that no constant has: layer 6 tells which ones these are.
func isKeyword(word string) bool {
	return term.IsName(word) && !term.Is(&api.Term{Kind: api.TConst, Name: word})
}

// cutDigit takes the digit off the end of a word; false, if there is none.
func cutDigit(word string) (ahead string, digit int, ok bool) {
	last := len(word) - 1
	if last < 0 || word[last] < '0' || word[last] > '9' {
		return "", 0, false
	}
	return word[:last], int(word[last] - '0'), true
}
