package disk

import (
	"strconv"

	"vademecum/api"
)

// refusal: a call that the disk didn't do, wrapped round the error's number.
type refusal struct {
	call string
	why  api.Errno
}

// refuse makes the refusal of a call on one sector.
func refuse(call string, at int, why api.Errno) error {
	return refusal{call: call + " " + strconv.Itoa(at), why: why}
}

// Error tells the call and the number.
func (r refusal) Error() string { return "disk: " + r.call + ": " + r.why.Error() }

// Unwrap lets errors.Is and errors.As find the number.
func (r refusal) Unwrap() error { return r.why }
