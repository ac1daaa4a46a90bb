package syntax

import (
	"strconv"
	"strings"

	"vademecum/api"
	"vademecum/term"
)

// printer: what is said of a term so far.
type printer struct{ text strings.Builder }

// term says a term with so many binders around.
func (p *printer) term(t *api.Term, around int) {
	switch t.Kind {
	case api.TSort:
		p.say("Type", strconv.Itoa(t.N))
	case api.TVar:
		p.say(bound(around - 1 - t.N))
	case api.TConst:
		p.constant(t)
	case api.TApp:
		p.part(t.A, false, around)
		p.say(" ")
		p.part(t.B, true, around)
	default:
		p.binder(t, around)
	}
}

// constant says a constant, and of a recursor always the sort.
func (p *printer) constant(t *api.Term) {
	p.say(t.Name)
	if _, rec := term.Rec(t.Name); rec {
		p.say("@", strconv.Itoa(t.N))
	}
}

// part says a part of an application.
func (p *printer) part(t *api.Term, behind bool, around int) {
	if !isBracketed(t, behind) {
		p.term(t, around)
		return
	}
	p.say("( ")
	p.term(t, around)
	p.say(" )")
}

// isBracketed tells whether a part of an application stands in brackets: ahead an application doesn't, as atoms are applied from the left.
func isBracketed(t *api.Term, behind bool) bool {
	switch t.Kind {
	case api.TApp:
		if !behind {
			return false
		}
		fallthrough
	case api.TPi, api.TLam, api.TLet:
		return true
	}
	return false
}

// binder says a binder.
func (p *printer) binder(t *api.Term, around int) {
	f := formOf(t.Kind)
	p.say(f.keyword, " ", bound(around))
	for i, part := range f.parts(t) {
		p.say(" ", f.signs[i], " ")
		p.term(*part, around+f.binds(i))
	}
}

// bound is the name of a variable with so many binders around its own one: none that it could hide has the same.
func bound(around int) string { return "_" + strconv.Itoa(around) }

// say puts texts behind what is said.
func (p *printer) say(texts ...string) {
	for _, text := range texts {
		p.text.WriteString(text)
	}
}
