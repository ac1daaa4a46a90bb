package code

import (
	"strings"

	"vademecum/api"
	"vademecum/pack"
	"vademecum/term"
)

// write puts a node and all that hangs on it behind what is written.
func write(b *strings.Builder, t *api.Term) {
	b.WriteString(pack.Num(t.Kind))
	switch t.Kind {
	case api.TConst:
		b.WriteString(pack.Text(t.Name))
		fallthrough
	case api.TSort, api.TVar:
		b.WriteString(pack.Num(t.N))
	}
	for _, part := range parts(t) {
		write(b, *part)
	}
}

// parts are the places of the parts that a node's Kind has, in their order.
func parts(t *api.Term) []**api.Term {
	size := 0
	switch t.Kind {
	case api.TLet:
		size++
		fallthrough
	case api.TPi, api.TLam, api.TApp:
		size += 2
	}
	return []**api.Term{&t.A, &t.B, &t.C}[:size]
}

// reader: bytes from which one term is read.
type reader struct {
	rest  string // what isn't taken yet
	nodes int    // begun
}

// term reads a node and all that hangs on it.
func (r *reader) term() (*api.Term, error) {
	t, err := r.node()
	if err != nil {
		return nil, err
	}
	for _, part := range parts(t) {
		if *part, err = r.term(); err != nil {
			return nil, err
		}
	}
	return t, nil
}

// node reads a node without its parts.
func (r *reader) node() (*api.Term, error) {
	r.nodes++
	if r.nodes > api.MaxNodes {
		return nil, api.ErrLarge
	}
	t := &api.Term{}
	err := r.take(&t.Kind)
	if err != nil {
		return nil, err
	}
	switch t.Kind {
	case api.TConst:
		if t.Name, r.rest, err = pack.TakeText(r.rest, api.MaxName); err != nil {
			return nil, err
		}
		fallthrough
	case api.TSort, api.TVar:
		if err = r.take(&t.N); err != nil {
			return nil, err
		}
		// What has parts needn't be asked: where they are, and not too many, it is.
		if !term.Is(t) {
			return nil, api.ErrForm
		}
	case api.TPi, api.TLam, api.TApp, api.TLet:
	default:
		return nil, api.ErrForm
	}
	return t, nil
}

// take takes the number at the front.
func (r *reader) take(n *int) (err error) {
	*n, r.rest, err = pack.Take(r.rest)
	return err
}
