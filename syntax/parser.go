package syntax

import (
	"vademecum/api"
	"vademecum/term"
)

// noName: the name of a variable that no word says.
const noName = ""

// parser: words that a term is taken from.
type parser struct {
	words  []string
	at     int            // how many are taken
	around int            // variables, bound here or handed in
	level  map[string]int // of a name how many variables there are up to the innermost one that it names; 0: it names none
}

// newParser is a parser that has taken nothing, with the variables handed in around.
func newParser(words, vars []string) *parser {
	p := &parser{words: words, level: map[string]int{}}
	for _, name := range vars {
		p.around++
		p.level[name] = p.around
	}
	return p
}

// whole takes the term at the front, if it isn't too large: that it is one at all comes first.
func (p *parser) whole() (*api.Term, error) {
	t, err := p.term()
	if err == nil && term.Size(t) > api.MaxNodes {
		return nil, fault{at: p.at, what: "too many nodes", why: api.ErrLarge}
	}
	return t, err
}

// term takes a term, as long as it goes on.
func (p *parser) term() (*api.Term, error) {
	if kind, ok := begun(p.word()); ok {
		return p.binder(kind)
	}
	t, err := p.applied()
	if err != nil || p.word() != "->" {
		return t, err
	}
	p.at++
	to, err := p.under(noName)
	if err != nil {
		return nil, err
	}
	return &api.Term{Kind: api.TPi, A: t, B: to}, nil
}

// binder takes what a keyword begins.
func (p *parser) binder(kind int) (*api.Term, error) {
	p.at++
	name := p.word()
	if !isBindable(name) {
		return nil, p.lacks("name")
	}
	p.at++
	t, f := &api.Term{Kind: kind}, formOf(kind)
	for i, part := range f.parts(t) {
		err := p.sign(f.signs[i])
		if err != nil {
			return nil, err
		}
		if f.binds(i) > 0 {
			*part, err = p.under(name)
		} else {
			*part, err = p.term()
		}
		if err != nil {
			return nil, err
		}
	}
	return t, nil
}

// under takes a term under one more variable.
func (p *parser) under(name string) (*api.Term, error) {
	outer := p.level[name]
	p.around++
	p.level[name] = p.around
	t, err := p.term()
	p.level[name] = outer
	p.around--
	return t, err
}

// applied takes an atom, and applies it to all that follow.
func (p *parser) applied() (*api.Term, error) {
	t, err := p.atom()
	if err != nil {
		return nil, err
	}
	for {
		start := p.at
		next, err := p.atom()
		switch {
		case isUnbegun(err, start):
			return t, nil
		case err != nil:
			return nil, err
		}
		t = &api.Term{Kind: api.TApp, A: t, B: next}
	}
}

// atom takes an atom.
func (p *parser) atom() (*api.Term, error) {
	if p.word() == "(" {
		return p.bracket()
	}
	t, ok := p.leaf(p.word())
	if !ok {
		return nil, p.lacks("term")
	}
	p.at++
	return t, nil
}

// bracket takes a term in brackets.
func (p *parser) bracket() (*api.Term, error) {
	p.at++
	t, err := p.term()
	if err != nil {
		return nil, err
	}
	if err := p.sign(")"); err != nil {
		return nil, err
	}
	return t, nil
}

// leaf is what a word says where it stands; false, if that is no term.
func (p *parser) leaf(word string) (*api.Term, bool) {
	level := p.level[word]
	if level == 0 || !isBindable(word) {
		return Atom(word)
	}
	t := &api.Term{Kind: api.TVar, N: p.around - level}
	// Handed in may be more variables than a term can count.
	return t, term.Is(t)
}

// sign takes a word that has to be there.
func (p *parser) sign(sign string) error {
	if p.word() != sign {
		return p.lacks(sign)
	}
	p.at++
	return nil
}

// word is the next word; behind the last one "", which says nothing anywhere.
func (p *parser) word() string {
	if p.at == len(p.words) {
		return ""
	}
	return p.words[p.at]
}

// lacks is the error that the next word isn't what it has to be.
func (p *parser) lacks(what string) error {
	return fault{at: p.at, what: "no " + what, why: api.ErrForm}
}
