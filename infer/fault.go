package infer

import "errors"

// fault: a term that has no type, or not the one that it should have, wrapped round what is in its way.
type fault struct {
	what string
	why  error
}

// Error tells what is wrong with the term, and the number.
func (f fault) Error() string { return "infer: " + f.what + ": " + f.why.Error() }

// Unwrap lets errors.Is and errors.As find the number.
func (f fault) Unwrap() error { return f.why }

// wrapped is an error as this layer tells it: one of a layer below is wrapped where it leaves this one.
func wrapped(err error) error {
	var own fault
	if errors.As(err, &own) {
		return err
	}
	return fault{what: "a type that isn't reduced or compared", why: err}
}
