package past

// fault: why the row stays as it is, wrapped round the error's number.
type fault struct {
	what string
	why  error
}

// Error tells what is wrong, and the number.
func (f fault) Error() string { return "past: " + f.what + ": " + f.why.Error() }

// Unwrap lets errors.Is and errors.As find the number.
func (f fault) Unwrap() error { return f.why }
