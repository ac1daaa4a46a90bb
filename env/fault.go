package env

import (
	"strconv"

	"vademecum/api"
)

// fault: a name for which there is no declaration, wrapped round the error's number.
type fault struct {
	name string
	what string
	why  api.Errno
}

// Error tells the name, what is wrong with it, and the number.
func (f fault) Error() string {
	return "env: " + strconv.Quote(f.name) + ": " + f.what + ": " + f.why.Error()
}

// Unwrap lets errors.Is and errors.As find the number.
func (f fault) Unwrap() error { return f.why }
