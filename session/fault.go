package session

import (
	"errors"

	"vademecum/api"
)

// fault: a call that wasn't done, wrapped round an error that is or wraps the number.
type fault struct {
	call string
	why  error
}

// Error tells the call, what that asks for, and what the layers below told.
func (f fault) Error() string {
	return "session: " + f.call + ": " + reason(f.why) + ": " + f.why.Error()
}

// Unwrap lets errors.Is and errors.As find the number.
func (f fault) Unwrap() error { return f.why }

// reason tells what is in the way of a session, whichever layer's error it is.
func reason(err error) string {
	switch {
	case errors.Is(err, api.ErrOpen):
		return "something is open"
	case errors.Is(err, api.ErrLarge):
		return "too long a sentence"
	case errors.Is(err, api.ErrFuel):
		return "not all can be said again"
	case errors.Is(err, api.ErrFull):
		return "no room on the disk"
	case errors.Is(err, api.ErrDead):
		return "no power since some call, until Recover"
	}
	return "no log on the disk"
}

// number is an error's number, whichever layer's error it is.
func number(err error) int {
	var n api.Errno
	errors.As(err, &n)
	return int(n)
}
