package code

import (
	"errors"
	"strconv"

	"vademecum/api"
)

// fault: a node that can't be read, wrapped round an error that is or wraps the number.
type fault struct {
	node int // counted from the left, the first one 1
	what string
	why  error
}

// noNode wraps what keeps a node from being read, and tells bytes that end too early from bytes that are wrong as they stand: a number alone is read by few.
func noNode(node int, why error) error {
	what := "ill-formed"
	switch {
	case errors.Is(why, api.ErrShort):
		what = "cut off"
	case errors.Is(why, api.ErrLarge):
		what = "too large"
	}
	return fault{node: node, what: what, why: why}
}

// Error tells which node, what was found, and why it is refused.
func (f fault) Error() string {
	return "code: node " + strconv.Itoa(f.node) + " " + f.what + ": " + f.why.Error()
}

// Unwrap lets errors.Is and errors.As find the number.
func (f fault) Unwrap() error { return f.why }
