package past

import (
	"slices"

	"vademecum/doc"
)

// state: a number, with its document; nil stands for a new one.
type state struct {
	number int
	doc    *doc.Doc
}

// own is a document that nobody else has: whoever has one may write over it.
func own(d *doc.Doc) *doc.Doc {
	if d == nil {
		return doc.New()
	}
	copied := *d
	return &copied
}

// present is the last state in the row.
func (p *Past) present() state {
	if n := len(p.later); n > 0 {
		return p.later[n-1]
	}
	return p.first
}

// behindFirst tells how many states behind the first one lead to a state, whose number is in the row.
func (p *Past) behindFirst(number int) (int, bool) {
	if p.first.number == number {
		return 0, true
	}
	i := slices.IndexFunc(p.later, func(s state) bool { return s.number == number })
	return i + 1, i >= 0
}

// leave leaves so many states behind the first one, in a list that doesn't hold what goes.
func (p *Past) leave(n int) {
	p.later = slices.Concat(p.later[:n])
}
