package frame

// fault: bytes that aren't the frame that was asked for, wrapped round an error that is or wraps the number.
type fault struct {
	what string
	why  error
}

// Error tells what was found, and why it is refused.
func (f fault) Error() string { return "frame: " + f.what + ": " + f.why.Error() }

// Unwrap lets errors.Is and errors.As find the number.
func (f fault) Unwrap() error { return f.why }
