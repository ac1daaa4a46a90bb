package keep

import (
	"errors"

	"vademecum/api"
)

// fault: bytes that aren't a record, wrapped round an error that is or wraps the number.
type fault struct {
	how string // how the record is that they begin with
	why error
}

// noPart wraps what keeps a part of a record from being taken. It tells a record that ends too early, and one that no log could hold, from bytes that never were one.
func noPart(part string, why error) error {
	how := "an ill-formed "
	switch {
	case errors.Is(why, api.ErrShort):
		how = "a cut off "
	case errors.Is(why, api.ErrLarge):
		how = "too large a "
	}
	return fault{how: how + part, why: why}
}

// Error tells what was found, and why it is refused.
func (f fault) Error() string { return "keep: a record with " + f.how + ": " + f.why.Error() }

// Unwrap lets errors.Is and errors.As find the number.
func (f fault) Unwrap() error { return f.why }
