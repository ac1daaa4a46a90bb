package infer

import (
	"vademecum/api"
	"vademecum/shift"
	"vademecum/term"
)

// part: a part of the term. The values of lets around it are put in only where a term is asked for: to put each one into all that is behind its let would make that anew for each let.
type part struct {
	t *api.Term
	// row: what the innermost variables around it stand for, the innermost one last, from the outermost let on; without lets nothing, as each variable stands for itself. Rows share memory: a part of this part only adds behind the row, and is done with when the next one does.
	row []meaning
	// base: how many variables were in ctx where the row began.
	base int
}

// meaning: what a variable stands for, and how many variables were in ctx there.
type meaning struct {
	t    *api.Term
	base int
}

// of is a part of a part, under the same variables.
func (p part) of(t *api.Term) part { return part{t: t, row: p.row, base: p.base} }

// under is what stands behind a binder, with one variable of a type more around it, up to the call of leave.
func (i *inference) under(p part, a *api.Term) part {
	i.ctx = append(i.ctx, a)
	b := p.of(p.t.B)
	if len(p.row) > 0 {
		b.row = append(b.row, meaning{t: &api.Term{Kind: api.TVar}, base: len(i.ctx)})
	}
	return b
}

// leave takes the variable of under away again.
func (i *inference) leave() { i.ctx = i.ctx[:len(i.ctx)-1] }

// behind is what stands behind a let, whose value is to be put in.
func (i *inference) behind(p part, value *api.Term) part {
	c := p.of(p.t.C)
	if len(p.row) == 0 {
		c.base = len(i.ctx)
	}
	c.row = append(c.row, meaning{t: value, base: len(i.ctx)})
	return c
}

// whole is a part as a term under ctx, with what its variables stand for put in.
func (i *inference) whole(p part) *api.Term {
	row := p.row
	if len(row) > 0 && term.Is(p.t) {
		// Variables further out don't stand in it.
		row = row[len(row)-min(len(row), term.Free(p.t)):]
	}
	switch {
	case len(row) == 0:
		return p.t
	case kindOf(p.t) == api.TVar:
		return i.standsFor(p)
	}
	l := make([]*api.Term, len(row))
	for k, m := range row {
		l[k] = i.lifted(m)
	}
	return shift.All(shift.Lift(p.t, len(i.ctx)-p.base, len(l)), l...)
}

// standsFor is what a part that is a variable stands for, under ctx.
func (i *inference) standsFor(p part) *api.Term {
	n := p.t.N
	switch {
	case n < 0:
		return p.t
	case n < len(p.row):
		return i.lifted(p.row[len(p.row)-1-n])
	}
	return &api.Term{Kind: api.TVar, N: n - len(p.row) + len(i.ctx) - p.base}
}

// lifted is what a variable stands for, under ctx.
func (i *inference) lifted(m meaning) *api.Term {
	return shift.Lift(m.t, len(i.ctx)-m.base, 0)
}

// isClosed tells whether a term is known to have no variables around.
func isClosed(t *api.Term) bool { return term.Is(t) && term.Free(t) == 0 }
