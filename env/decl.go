package env

import (
	"slices"

	"vademecum/api"
	"vademecum/term"
)

// unshared: so many nodes the terms of one declaration have at most, where it and its family are as they may be: its type, its value, its constructors' types.
const unshared = (2 + api.MaxCons) * api.MaxNodes

// isSameFamily tells whether all parts of two families are the same.
func isSameFamily(a, b api.Family) bool {
	return a.Params == b.Params && a.Indices == b.Indices && a.Sort == b.Sort && slices.EqualFunc(a.Cons, b.Cons, isSameCon)
}

// isSameCon tells whether two constructors are the same.
func isSameCon(a, b api.Con) bool { return a.Name == b.Name && term.Same(a.Type, b.Type) }

// copied makes a declaration anew, with all that hangs on it.
func copied(d api.Decl) api.Decl {
	d.Family.Cons = slices.Clone(d.Family.Cons)
	terms := []**api.Term{&d.Type, &d.Value}
	for i := range d.Family.Cons {
		terms = append(terms, &d.Family.Cons[i].Type)
	}
	renew(terms)
	return d
}

// renew puts new nodes into places for the ones that are there, and for all that hangs on these. Nothing is shared up to the nodes that a declaration may have; behind them what was shared stays so, as only a type was ever asked whether it is a term: the others may be unfolded to more nodes than could be made, or hang on themselves.
func renew(places []**api.Term) {
	made := map[*api.Term]*api.Term{}
	for nodes := 0; len(places) > 0; {
		place := places[len(places)-1]
		places = places[:len(places)-1]
		old := *place
		if old == nil {
			continue
		}
		if *place = made[old]; *place != nil {
			continue
		}
		node := *old
		*place = &node
		if nodes++; nodes > unshared {
			made[old] = &node
		}
		places = append(places, &node.A, &node.B, &node.C)
	}
}
