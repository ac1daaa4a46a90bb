package term

import (
	"iter"

	"vademecum/api"
)

// maxVar: the greatest N of a variable.
const maxVar = 100000

// addSize adds the nodes of a term to n, and stops at one past MaxNodes: what is shared may be unfolded to far more than could be counted.
func addSize(n int, t *api.Term) int {
	if t == nil || n > api.MaxNodes {
		return n
	}
	n = addSize(n+1, t.A)
	n = addSize(n, t.B)
	return addSize(n, t.C)
}

// isWhole tells whether a node and all that hangs on it is as its Kind asks, however many nodes these are.
func isWhole(t *api.Term) bool {
	if t == nil || !isBare(t) {
		return false
	}
	switch t.Kind {
	case api.TConst:
		if !isConstant(t) {
			return false
		}
		fallthrough
	case api.TSort:
		return 0 <= t.N && t.N <= api.MaxSort
	case api.TVar:
		return 0 <= t.N && t.N <= maxVar
	case api.TLet:
		if !isWhole(t.C) {
			return false
		}
		fallthrough
	default: // TPi, TLam, TApp
		return isWhole(t.A) && isWhole(t.B)
	}
}

// isBare tells whether a node has a Kind, and nothing in the fields that its Kind doesn't have.
func isBare(t *api.Term) bool {
	bare := api.Term{Kind: t.Kind}
	switch t.Kind {
	case api.TConst:
		bare.Name = t.Name
		fallthrough
	case api.TSort, api.TVar:
		bare.N = t.N
	case api.TLet:
		bare.C = t.C
		fallthrough
	case api.TPi, api.TLam, api.TApp:
		bare.A, bare.B = t.A, t.B
	default:
		return false
	}
	return *t == bare
}

// isConstant tells whether a constant has a name that it may have, and a sort only where it eliminates into one.
func isConstant(t *api.Term) bool {
	_, rec := Rec(t.Name)
	return IsName(t.Name) && !isKeyword(t.Name) && (rec || t.N == 0)
}

// nodes gives each node of what Is, with how many binders of it are around; of what isn't, none.
func nodes(t *api.Term) iter.Seq2[*api.Term, int] {
	return func(yield func(*api.Term, int) bool) {
		if Is(t) {
			visit(t, 0, yield)
		}
	}
}

// constants gives the Name of each constant of what Is, as often as it is there; of what isn't, none.
func constants(t *api.Term) iter.Seq[string] {
	return func(yield func(string) bool) {
		for node := range nodes(t) {
			if node.Kind == api.TConst && !yield(node.Name) {
				return
			}
		}
	}
}

// visit hands over a node and all that hangs on it, each with how many binders are around, as long as it is told true.
func visit(t *api.Term, around int, yield func(*api.Term, int) bool) bool {
	if !yield(t, around) {
		return false
	}
	inB := around
	switch t.Kind {
	case api.TPi, api.TLam:
		inB++
		fallthrough
	case api.TApp:
		return visit(t.A, around, yield) && visit(t.B, inB, yield)
	case api.TLet:
		return visit(t.A, around, yield) && visit(t.B, around, yield) && visit(t.C, around+1, yield)
	}
	return true
}
