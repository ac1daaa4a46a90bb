package whnf

import (
	"errors"

	"vademecum/api"
)

// errStuck: there is no step to be made. No call answers it.
var errStuck = errors.New("stuck")

// fault: a step that there is, but that can't be made, wrapped round the error's number.
type fault struct {
	what string
	why  api.Errno
}

// Error tells what is wrong with the step, and the number.
func (f fault) Error() string { return "whnf: " + f.what + ": " + f.why.Error() }

// Unwrap lets errors.Is and errors.As find the number.
func (f fault) Unwrap() error { return f.why }
