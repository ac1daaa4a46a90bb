package past

import (
	"slices"
	"strings"
)

// maxMarks: how many names may stand for states; the document tells it where package api doesn't.
const maxMarks = 20

// mark: a name that stands for a state.
type mark struct {
	name  string
	state int
}

// findMark tells where the mark of a name stands, or would stand.
func (p *Past) findMark(name string) (int, bool) {
	return slices.BinarySearchFunc(p.marks, name, func(m mark, name string) int {
		return strings.Compare(m.name, name)
	})
}

// setMark puts a mark where its name stands, or would stand.
func (p *Past) setMark(i int, stands bool, m mark) {
	behind := i
	if stands {
		behind++
	}
	p.marks = slices.Concat(p.marks[:i], []mark{m}, p.marks[behind:])
}
