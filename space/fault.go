package space

import (
	"strconv"

	"vademecum/api"
)

// fault: a name that stands for nothing, wrapped round the error's number.
type fault struct {
	name string // as it was said
	why  api.Errno
}

// Error tells the name and the number.
func (f fault) Error() string {
	return "space: " + strconv.Quote(f.name) + ": no such name: " + f.why.Error()
}

// Unwrap lets errors.Is and errors.As find the number.
func (f fault) Unwrap() error { return f.why }
