package journal

// fault: a call that wasn't done, wrapped round an error that is or wraps the number.
type fault struct {
	call string
	why  error
}

// Error tells the call, and why it wasn't done.
func (f fault) Error() string { return "journal: " + f.call + ": " + f.why.Error() }

// Unwrap lets errors.Is and errors.As find the number.
func (f fault) Unwrap() error { return f.why }

// diskFault: what the disk answered, told from what the journal itself refuses, since behind it the journal is dead.
type diskFault struct{ why error }

// ofDisk marks an error as the disk's.
func ofDisk(err error) error {
	if err == nil {
		return nil
	}
	return diskFault{why: err}
}

// Error tells what the disk told.
func (f diskFault) Error() string { return f.why.Error() }

// Unwrap lets errors.Is and errors.As find the number.
func (f diskFault) Unwrap() error { return f.why }
