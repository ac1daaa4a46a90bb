package conv

// unlike: the end of a comparison at two terms that don't come to the same, and what was left of fuel there. No call answers it.
type unlike struct{ left int }

// Error tells what has ended the comparison.
func (u unlike) Error() string { return "conv: unlike" }

// fault: a comparison that can't be made, wrapped round what is in its way.
type fault struct {
	what string
	why  error
}

// Error tells what is wrong with the comparison, and the number.
func (f fault) Error() string { return "conv: " + f.what + ": " + f.why.Error() }

// Unwrap lets errors.Is and errors.As find the number.
func (f fault) Unwrap() error { return f.why }
