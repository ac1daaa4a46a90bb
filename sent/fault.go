package sent

import (
	"errors"

	"vademecum/api"
)

// fault: a sentence that isn't one, wrapped round the error's number.
type fault struct {
	where string // ahead of what lacks; "", if that is no single place
	what  string
	why   error
}

// Error tells where, what lacks or is too large there, and the number.
func (f fault) Error() string {
	how := "no "
	if errors.Is(f.why, api.ErrLarge) {
		how = "too large a "
	}
	return "sent: " + f.where + how + f.what + ": " + f.why.Error()
}

// Unwrap lets errors.Is and errors.As find the number.
func (f fault) Unwrap() error { return f.why }

// faults: the first fault that there was; nil, if there was none.
type faults struct{ err error }

// fail keeps a fault, if there was none ahead.
func (l *faults) fail(f fault) {
	if l.err == nil {
		l.err = f
	}
}
