package keep

import "vademecum/api"

// sentence is the sentence that makes a declaration; false of a constructor, which its family's sentence makes.
func sentence(made api.Decl) (api.Sentence, bool) {
	x := api.Sentence{Name: made.Name, A: made.Type}
	switch made.Kind {
	case api.DAxiom:
		x.Kind = api.SAxiom
	case api.DDef:
		x.Kind, x.B = api.SDef, made.Value
	case api.DFamily:
		x.Kind, x.N, x.Cons = api.SFamily, made.Family.Params, made.Family.Cons
	default:
		return api.Sentence{}, false
	}
	return x, true
}
