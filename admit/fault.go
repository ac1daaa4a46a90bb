package admit

import (
	"errors"
	"strconv"
)

// fault: a declaration that isn't let in, wrapped round what is in its way.
type fault struct {
	name string
	what string
	why  error
}

// Error tells the declaration's name, what is wrong with it, and the number.
func (f fault) Error() string {
	return "admit: " + strconv.Quote(f.name) + ": " + f.what + ": " + f.why.Error()
}

// Unwrap lets errors.Is and errors.As find the number.
func (f fault) Unwrap() error { return f.why }

// wrapped is an error as this layer tells it: one of a layer below is wrapped where it leaves this one, with the name of what was to be let in.
func wrapped(name string, err error) error {
	var own fault
	if errors.As(err, &own) {
		return err
	}
	return fault{name: name, what: "isn't let in", why: err}
}
