package section

import (
	"vademecum/api"
	"vademecum/spine"
)

// applied makes a term anew, each constant in it applied to the variables that it was let go of.
func (c *closing) applied(t *api.Term) *api.Term {
	// What nodes became: a value that was never asked whether it is a term may share so much that it can't be unfolded, or hang on itself.
	made := map[*api.Term]*api.Term{}
	todo := []**api.Term{&t}
	for len(todo) > 0 {
		place := todo[len(todo)-1]
		todo = todo[:len(todo)-1]
		old := *place
		if old == nil {
			continue
		}
		if *place = made[old]; *place != nil {
			continue
		}
		if u := c.gone[old.Name]; old.Kind == api.TConst && len(u) > 0 {
			*place = spine.Apply(old, u...)
		} else {
			node := *old
			*place = &node
			todo = appendParts(todo, &node)
		}
		made[old] = *place
	}
	return t
}

// appendParts puts the places of a node's parts behind others. It goes by what is there: of what is no term a Kind doesn't tell its parts.
func appendParts(places []**api.Term, node *api.Term) []**api.Term {
	switch {
	case node.C != nil:
		places = append(places, &node.C)
		fallthrough
	case node.B != nil:
		places = append(places, &node.B)
		fallthrough
	case node.A != nil:
		places = append(places, &node.A)
	}
	return places
}
