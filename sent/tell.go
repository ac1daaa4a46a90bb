package sent

import (
	"iter"

	"vademecum/api"
)

// voice: what a sentence is told to, part by part. It is handed what the sentence has there, and answers what stands there: so one form is read and written. Behind a fault nothing counts that it answers.
type voice interface {
	kind(kind int) int
	sign(sign string)
	name(name string) string
	number(n int) int
	term(t *api.Term) *api.Term
	cons(l []api.Con) iter.Seq[api.Con]
}

// tell tells a sentence from the left, and answers the one that stands there, with just the parts that its Kind has.
func tell(v voice, x api.Sentence) api.Sentence {
	y := api.Sentence{Kind: v.kind(x.Kind)}
	switch y.Kind {
	case api.SFamily:
		y.Name = v.name(x.Name)
		fallthrough
	case api.SUndo, api.SBack:
		y.N = v.number(x.N)
	case api.SCommit, api.SCheck:
	default:
		y.Name = v.name(x.Name)
	}
	switch y.Kind {
	case api.SAxiom, api.SVar, api.SDef, api.SFamily:
		v.sign(":")
		fallthrough
	case api.SCheck:
		y.A = v.term(x.A)
	}
	switch y.Kind {
	case api.SDef:
		v.sign(":=")
		y.B = v.term(x.B)
	case api.SFamily:
		y.Cons = tellCons(v, x.Cons)
	}
	v.sign(".")
	return y
}

// tellCons tells a family's constructors, and answers those that stand there.
func tellCons(v voice, l []api.Con) []api.Con {
	var told []api.Con
	v.sign("{")
	for x := range v.cons(l) {
		if len(told) > 0 {
			v.sign(";")
		}
		var y api.Con
		y.Name = v.name(x.Name)
		v.sign(":")
		y.Type = v.term(x.Type)
		told = append(told, y)
	}
	v.sign("}")
	return told
}
