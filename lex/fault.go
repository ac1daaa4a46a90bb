package lex

import (
	"strconv"

	"vademecum/api"
)

// fault: a text that isn't in words, wrapped round the error's number.
type fault struct {
	at  int // the byte that begins no word, or the first one too many
	why api.Errno
}

// Error tells where and the number.
func (f fault) Error() string { return "lex: byte " + strconv.Itoa(f.at) + ": " + f.why.Error() }

// Unwrap lets errors.Is and errors.As find the number.
func (f fault) Unwrap() error { return f.why }
