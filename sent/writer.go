package sent

import (
	"iter"
	"slices"
	"strconv"
	"strings"

	"vademecum/api"
	"vademecum/syntax"
)

// writer: a voice that says a sentence in words, and takes what it is handed as it is.
type writer struct {
	text strings.Builder
	faults
}

// kind says the word that a sentence begins with.
func (w *writer) kind(kind int) int {
	word := keyword(kind)
	w.say(word != "", word, "sentence")
	return kind
}

// sign says a word that is the same in all sentences of a Kind.
func (w *writer) sign(sign string) { w.say(true, sign, sign) }

// name says a name.
func (w *writer) name(name string) string {
	w.say(isName(name), name, "name")
	return name
}

// number says a number.
func (w *writer) number(n int) int {
	w.say(isNumber(n), strconv.Itoa(n), "number")
	return n
}

// term says a term.
func (w *writer) term(t *api.Term) *api.Term {
	text := syntax.Print(t)
	w.say(text != "", text, "term")
	return t
}

// cons gives the constructors.
func (w *writer) cons(l []api.Con) iter.Seq[api.Con] { return slices.Values(l) }

// whole asks that all of a sentence was told.
func (w *writer) whole(x, told api.Sentence) {
	if !Same(x, told) {
		w.fail(fault{what: "place for a part", why: api.ErrForm})
	}
}

// say puts words behind what is said, if they are what they have to be.
func (w *writer) say(ok bool, words, what string) {
	if !ok {
		w.fail(fault{what: what, why: api.ErrForm})
		return
	}
	if w.text.Len() > 0 {
		w.text.WriteByte(' ')
	}
	w.text.WriteString(words)
}
