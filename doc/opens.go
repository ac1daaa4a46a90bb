package doc

import (
	"slices"
	"strconv"

	"vademecum/api"
	"vademecum/env"
	"vademecum/section"
)

// isInSection tells whether what was opened last is a section.
func (d *Doc) isInSection() bool {
	return len(d.opens) > 0 && d.opens[len(d.opens)-1].Section
}

// open opens a namespace or a section.
func (d *Doc) open(x api.Sentence) error {
	if len(d.opens) >= api.MaxDepth {
		return fault{name: x.Name, what: "can't be opened in " + strconv.Itoa(len(d.opens)) + " others", why: api.ErrOpen}
	}
	o := api.Open{Section: x.Kind == api.SSection, Name: x.Name, From: d.declared().Len()}
	d.opens = slices.Concat(d.opens, []api.Open{o})
	return nil
}

// end ends what was opened last.
func (d *Doc) end(name string) error {
	n := len(d.opens) - 1
	if n < 0 || d.opens[n].Name != name {
		return fault{name: name, what: "isn't what was opened last", why: api.ErrOpen}
	}
	if o := d.opens[n]; o.Section {
		e, err := section.Close(d.declared(), o.From, d.variables(o))
		if err != nil {
			return err
		}
		d.env = e
	}
	d.opens = slices.Clone(d.opens[:n])
	return nil
}

// addVariable adds a variable to the section that was opened last.
func (d *Doc) addVariable(whole string) {
	d.opens = slices.Clone(d.opens)
	o := &d.opens[len(d.opens)-1]
	o.Vars = slices.Concat(o.Vars, []api.Decl{{Name: whole}})
}

// variables are the declarations of a section's variables.
func (d *Doc) variables(o api.Open) []api.Decl {
	l := make([]api.Decl, len(o.Vars))
	for i, v := range o.Vars {
		l[i], _ = d.declared().Find(v.Name)
	}
	return l
}

// needs tells the variables of open sections that terms need.
func (d *Doc) needs(l []*api.Term) []string {
	var vars []api.Decl
	for _, o := range d.opens {
		vars = append(vars, d.variables(o)...)
	}
	return section.Needs(d.declared(), vars, l...)
}

// isSameOpen tells whether the same is open in two documents that declare the same.
func isSameOpen(a, b api.Open) bool {
	return a.Section == b.Section && a.Name == b.Name && a.From == b.From && slices.EqualFunc(a.Vars, b.Vars, env.Same)
}
