package section

import "strconv"

// fault: a declaration that can't be let go of variables, wrapped round the error's number.
type fault struct {
	name string
	why  error
}

// Error tells the name, what is wrong with it, and the number.
func (f fault) Error() string {
	return "section: " + strconv.Quote(f.name) + ": let go of variables: " + f.why.Error()
}

// Unwrap lets errors.Is and errors.As find the number.
func (f fault) Unwrap() error { return f.why }
