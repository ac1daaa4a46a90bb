package space

import "vademecum/api"

// renamed makes a term anew, each constant with its whole name; the error is of the first one from the left that has none.
func (s *scope) renamed(t *api.Term) (*api.Term, error) {
	// What nodes became: kept only once there are more of them than a term may have. Up to there no node of an answer is shared; behind it what is shared stays so, as it could be unfolded to more nodes than could be made, or hang on itself.
	made := map[*api.Term]*api.Term{}
	todo := []**api.Term{&t}
	for nodes := 0; len(todo) > 0; {
		place := todo[len(todo)-1]
		todo = todo[:len(todo)-1]
		old := *place
		if old == nil {
			continue
		}
		if *place = made[old]; *place != nil {
			continue
		}
		node, err := s.node(old)
		if err != nil {
			return nil, err
		}
		*place = node
		if nodes++; nodes > api.MaxNodes {
			made[old] = node
		}
		todo = appendParts(todo, node)
	}
	return t, nil
}

// node makes one node anew, with the parts that it has.
func (s *scope) node(old *api.Term) (*api.Term, error) {
	node := *old
	if node.Kind != api.TConst {
		return &node, nil
	}
	whole, err := s.find(node.Name)
	if err != nil {
		return nil, err
	}
	node.Name = whole
	return &node, nil
}

// appendParts puts the places of a node's parts behind others, the first part last. It goes by what is there: of what is no term a Kind doesn't tell its parts.
func appendParts(places []**api.Term, node *api.Term) []**api.Term {
	switch {
	case node.C != nil:
		places = append(places, &node.C)
		fallthrough
	case node.B != nil:
		places = append(places, &node.B)
		fallthrough
	case node.A != nil:
		places = append(places, &node.A)
	}
	return places
}
