package posit

import (
	"errors"
	"strconv"

	"vademecum/api"
)

// What keeps a type from being as it may be. No call answers these: a fault has their texts.
var (
	errSort   = errors.New("its type is of no sort")
	errLength = errors.New("its type has too few products, or too many")
	errParams = errors.New("it has other parameters than the family")
	errEnd    = errors.New("it ends in the family applied to too little, or to too much")
	errAstray = errors.New("the family stands where it may not")
	errAbsent = errors.New("the family isn't where it has to be")
)

// fault: what is wrong with a family or a constructor, wrapped round the error's number.
type fault struct {
	name string
	what string
	why  api.Errno
}

// illFormed is a fault of what is no declaration at all.
func illFormed(name, what string) error {
	return fault{name: name, what: what, why: api.ErrForm}
}

// mayNotBe is a fault of what could be declared, but not of a family.
func mayNotBe(name string, why error) error {
	return fault{name: name, what: why.Error(), why: api.ErrPos}
}

// Error tells whose name it is, what is wrong with it, and the number.
func (f fault) Error() string {
	return "posit: " + strconv.Quote(f.name) + ": " + f.what + ": " + f.why.Error()
}

// Unwrap lets errors.Is and errors.As find the number.
func (f fault) Unwrap() error { return f.why }
