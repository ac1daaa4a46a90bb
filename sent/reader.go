package sent

import (
	"iter"
	"strconv"

	"vademecum/api"
	"vademecum/syntax"
)

// reader: a voice that takes a sentence from words; what it is handed says nothing to it.
type reader struct {
	words []string
	at    int // how many are taken
	faults
}

// kind takes the word that a sentence begins with.
func (r *reader) kind(int) int {
	kind := kindOf(r.word())
	r.take(kind > 0, "sentence")
	return kind
}

// sign takes a word that has to be there.
func (r *reader) sign(sign string) { r.take(r.word() == sign, strconv.Quote(sign)) }

// name takes a name.
func (r *reader) name(string) string {
	word := r.word()
	r.take(isName(word), "name")
	return word
}

// number takes a number.
func (r *reader) number(int) int {
	n, ok := numberOf(r.word())
	r.take(ok, "number")
	return n
}

// term takes a term, as long as it goes on.
func (r *reader) term(*api.Term) *api.Term {
	t, rest, err := syntax.Parse(r.words[r.at:], nil)
	if err != nil {
		r.lacks("term", err)
		return nil
	}
	r.at = len(r.words) - len(rest)
	return t
}

// cons gives a constructor that is still to be taken, as often as the list goes on.
func (r *reader) cons([]api.Con) iter.Seq[api.Con] {
	return func(yield func(api.Con) bool) {
		for r.err == nil && r.word() != "}" && yield(api.Con{}) {
		}
	}
}

// end asks that there is nothing behind.
func (r *reader) end() {
	if r.at < len(r.words) {
		r.lacks("end", api.ErrForm)
	}
}

// word is the next word; behind the last one "", which says nothing anywhere.
func (r *reader) word() string {
	if r.at == len(r.words) {
		return ""
	}
	return r.words[r.at]
}

// take takes the next word, if it is what it has to be.
func (r *reader) take(ok bool, what string) {
	if !ok {
		r.lacks(what, api.ErrForm)
		return
	}
	r.at++
}

// lacks keeps the fault that the next word, or what begins with it, isn't what it has to be.
func (r *reader) lacks(what string, why error) {
	r.fail(fault{where: "word " + strconv.Itoa(r.at) + ": ", what: what, why: why})
}
