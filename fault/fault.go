// Package fault: errors with a number, a place, what was said, what lacks: see doc/01-fault.md.
package fault

import (
	"errors"

	"espalier/api"
)

// New gives an error of a number.
func New(c api.Errno) error {
	if c == api.OK {
		return nil
	}
	return &coded{c}
}

// At gives one with a place.
func At(c api.Errno, p api.Place) error {
	if c == api.OK {
		return nil
	}
	at := locate(c, p)
	return &at
}

// Raise gives one that was raised.
func Raise(p api.Place, text string) error {
	return &raised{locate(api.ErrRaise, p), text}
}

// Lack gives one of a kind that lacks an ability.
func Lack(p api.Place, kind, ability string) error {
	return &lacking{locate(api.ErrLack, p), kind, ability}
}

// Wrap lays a note around an error.
func Wrap(e error, note string) error {
	if e == nil || len(Notes(e)) >= api.MaxNotes {
		return e
	}
	return &noted{e, note}
}

// Notes tells the notes around an error, the outermost first.
func Notes(e error) []string {
	var notes []string
	for one := range each(e) {
		var n *noted
		if errors.As(one, &n) {
			notes = append(notes, n.note)
		}
	}
	return notes
}

// Code tells an error's number; OK of none.
func Code(e error) api.Errno {
	if e == nil {
		return api.OK
	}
	var c api.Coded
	if !errors.As(from(e), &c) {
		return api.ErrArg
	}
	code, ok := guarded(c.Code)
	if !ok {
		return api.ErrArg
	}
	return code
}

// Place tells an error's place.
func Place(e error) (api.Place, bool) {
	var l api.Located
	if e == nil || !errors.As(from(e), &l) {
		return api.Place{}, false
	}
	p, ok := guarded(l.Where)
	// An error of another package may tell the very path that it keeps.
	return copied(p), ok
}

// Same tells whether two errors are the same, notes aside.
func Same(a, b error) bool {
	if a == nil || b == nil {
		return a == nil && b == nil
	}
	x, ok := tell(a)
	if !ok {
		return false
	}
	y, ok := tell(b)
	return ok && x.same(y)
}
