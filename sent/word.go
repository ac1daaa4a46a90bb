package sent

import (
	"strconv"

	"vademecum/api"
	"vademecum/term"
)

// maxNumber: the greatest number of six digits.
const maxNumber = 999999

// keywords: the word that a sentence of each Kind begins with.
var keywords = [...]string{
	api.SAxiom: "axiom", api.SDef: "def", api.SFamily: "family", api.SVar: "var",
	api.SSpace: "space", api.SSection: "section", api.SEnd: "end",
	api.SUndo: "undo", api.SBack: "back", api.SMark: "mark", api.SRestore: "restore",
	api.SCommit: "commit", api.SCheck: "check", api.SPrint: "print",
}

// keyword is the word that a sentence of a Kind begins with; "", if it is none.
func keyword(kind int) string {
	if kind < 0 || kind >= len(keywords) {
		return ""
	}
	return keywords[kind]
}

// kindOf is the Kind of the sentence that a word begins; 0, if it begins none.
func kindOf(word string) int {
	for kind, keyword := range keywords {
		if word == keyword {
			return kind
		}
	}
	return 0
}

// isName tells whether something may be made or asked for by a name: layer 6 tells which ones no constant has, the keywords of terms.
func isName(s string) bool {
	_, rec := term.Rec(s)
	return !rec && term.Is(&api.Term{Kind: api.TConst, Name: s})
}

// isNumber tells whether a number may be said.
func isNumber(n int) bool { return 0 <= n && n <= maxNumber }

// numberOf is the number that a word says, in the one way to say it; false, if it says none.
func numberOf(word string) (int, bool) {
	n, err := strconv.Atoi(word)
	if err != nil || !isNumber(n) || strconv.Itoa(n) != word {
		return 0, false
	}
	return n, true
}
