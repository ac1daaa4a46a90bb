package pack

import (
	"strconv"

	"vademecum/api"
)

// fault: bytes that don't begin with what was to be taken, wrapped round the error's number.
type fault struct {
	of  string // what was to be taken
	at  int    // the byte that is wrong, or the first that lacks
	why api.Errno
}

// Error tells what, where and the number.
func (f fault) Error() string {
	return "pack: " + f.of + ", byte " + strconv.Itoa(f.at) + ": " + f.why.Error()
}

// Unwrap lets errors.Is and errors.As find the number.
func (f fault) Unwrap() error { return f.why }
