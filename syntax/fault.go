package syntax

import (
	"errors"
	"strconv"

	"vademecum/api"
)

// fault: words that no term is taken from, wrapped round the error's number.
type fault struct {
	at   int // the word that isn't what it has to be, or the one behind a term that may not be
	what string
	why  api.Errno
}

// Error tells where, what and the number.
func (f fault) Error() string {
	return "syntax: word " + strconv.Itoa(f.at) + ": " + f.what + ": " + f.why.Error()
}

// Unwrap lets errors.Is and errors.As find the number.
func (f fault) Unwrap() error { return f.why }

// isUnbegun tells whether an error is of the very word at which something was asked for: then nothing of it is there, so nothing of it lacks its end.
func isUnbegun(err error, at int) bool {
	var f fault
	return errors.As(err, &f) && f.at == at
}
