package syntax

import "vademecum/api"

// form: how a binder is said: a keyword, a name, and its parts, a sign ahead of each. The name is bound in the last one.
type form struct {
	keyword string
	signs   []string
}

// formOf is the form of a Kind of binder.
func formOf(kind int) form {
	switch kind {
	case api.TLam:
		return form{"fun", []string{":", "=>"}}
	case api.TPi:
		return form{"pi", []string{":", ","}}
	default: // TLet
		return form{"let", []string{":", ":=", "in"}}
	}
}

// begun is the Kind of the binder that a keyword begins; false, if the word begins none.
func begun(word string) (int, bool) {
	for _, kind := range []int{api.TPi, api.TLam, api.TLet} {
		if word == formOf(kind).keyword {
			return kind, true
		}
	}
	return 0, false
}

// parts are the places of the parts of a binder.
func (f form) parts(t *api.Term) []**api.Term {
	return []**api.Term{&t.A, &t.B, &t.C}[:len(f.signs)]
}

// binds tells how many binders more are around a part.
func (f form) binds(part int) int {
	if part < len(f.signs)-1 {
		return 0
	}
	return 1
}
