package talk

import (
	"vademecum/api"
	"vademecum/sent"
)

// hear does what a line says, and answers its text.
func (t *Talk) hear(line string) (string, error) {
	x, err := sent.Parse(line)
	if err != nil {
		return "", err
	}
	switch x.Kind {
	case api.SUndo:
		return "", t.past.Undo(x.N)
	case api.SBack:
		return "", t.past.Back(x.N)
	case api.SMark:
		return "", t.past.Mark(x.Name)
	case api.SRestore:
		return "", t.past.Restore(x.Name)
	case api.SCommit:
		// There is no disk.
		return "", nil
	}
	return t.do(x)
}

// do has the present document do a sentence. What it makes of one that is kept is the next state.
func (t *Talk) do(x api.Sentence) (string, error) {
	next, text, err := t.past.Now().Do(x, t.fuel)
	switch {
	case err == nil && Keeps(x):
		err = t.past.Push(next)
		fallthrough
	default:
		return text, err
	}
}
