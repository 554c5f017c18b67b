// Package caught: which faults guard.try and guard.catch catch, and what they are told by then: see doc/15-guard.md.
package caught

import (
	"errors"

	"espalier/api"
)

// Text tells of a fault whether it is caught, and the text that guard.catch
// binds then. What is no fault at all, an error without a number, is not caught.
func Text(e error) (string, bool) {
	var coded api.Coded
	if !errors.As(e, &coded) {
		return "", false
	}
	switch code := coded.Code(); code {
	case api.ErrFuel, api.ErrRoom, api.ErrDeep, api.ErrFull, api.ErrName, api.ErrCount, api.ErrLack:
		return "", false
	case api.ErrRaise:
		return said(e), true
	default:
		return name(code), true
	}
}

// said gives what was raised.
func said(e error) string {
	var raise api.Raised
	if !errors.As(e, &raise) {
		return ""
	}
	return raise.Said()
}

// name gives the name of a fault's number; a run comes to no others that are caught.
func name(code api.Errno) string {
	switch code {
	case api.ErrKind:
		return "kind"
	case api.ErrOver:
		return "over"
	case api.ErrZero:
		return "zero"
	case api.ErrBounds:
		return "bounds"
	case api.ErrNumber:
		return "number"
	case api.ErrLong:
		return "long"
	}
	return ""
}
