package doc

import (
	"errors"
	"strconv"

	"vademecum/api"
)

// refusal: why a sentence isn't accepted. It tells the number alone, as a reply to the sentence does; what it wraps tells more.
type refusal struct{ why error }

// Error tells the number.
func (r refusal) Error() string {
	var number api.Errno
	errors.As(r.why, &number)
	return number.Error()
}

// Unwrap tells what is in the way of the sentence.
func (r refusal) Unwrap() error { return r.why }

// fault: what this layer finds in the way of a sentence, wrapped round the error's number.
type fault struct {
	name string
	what string
	why  api.Errno
}

// Error tells a name of the sentence, what is wrong with it, and the number.
func (f fault) Error() string {
	return "doc: " + strconv.Quote(f.name) + ": " + f.what + ": " + f.why.Error()
}

// Unwrap lets errors.Is and errors.As find the number.
func (f fault) Unwrap() error { return f.why }
