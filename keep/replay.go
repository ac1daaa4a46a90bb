package keep

import (
	"vademecum/api"
	"vademecum/talk"
)

// replay does one record again, and tells whether it could be done. First: only bases are ahead of it.
func replay(t *talk.Talk, r api.Record, first bool) bool {
	switch r.Kind {
	case api.RBase:
		return first && rebase(t, r)
	case api.RSentence:
		return accepts(t, r.Text)
	}
	return r.Kind == api.RCommit
}

// rebase says what a base tells, if it tells anything, and makes what is there the only state.
func rebase(t *talk.Talk, r api.Record) bool {
	if r.Text != "" && !accepts(t, r.Text) {
		return false
	}
	t.Past().Rebase(r.N)
	return true
}

// accepts says a line, and tells whether it was accepted.
func accepts(t *talk.Talk, line string) bool { return t.Say(line).Err == int(api.OK) }
