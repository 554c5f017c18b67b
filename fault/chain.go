package fault

import (
	"errors"
	"iter"

	"espalier/api"
)

// maxChain is how many errors are gone along at most: one that wraps itself
// would never come to an end.
const maxChain = 1024

// chain is an error and those that it wraps, at most left of them. errors.As
// goes along a chain and not along the error itself: so it ends, keeps to
// Unwrap() error, and asks each error's method set alone, not its own As.
type chain struct {
	error
	left int
}

func from(e error) chain { return chain{e, maxChain} }

func alone(e error) chain { return chain{e, 1} }

// rest is the chain behind its first error, if there is one.
func (c chain) rest() (chain, bool) {
	if c.left <= 1 {
		return chain{}, false
	}
	next, _ := guarded(func() error { return errors.Unwrap(c.error) })
	return chain{next, c.left - 1}, next != nil
}

// Unwrap is how errors.As goes along the chain.
func (c chain) Unwrap() error {
	if next, ok := c.rest(); ok {
		return next
	}
	return nil
}

// As is how errors.As asks the chain's first error.
func (c chain) As(target any) bool {
	switch t := target.(type) {
	case *api.Coded:
		return take(c.error, t)
	case *api.Located:
		return take(c.error, t)
	case *api.Raised:
		return take(c.error, t)
	case *api.Lacking:
		return take(c.error, t)
	case **noted:
		return take(c.error, t)
	}
	return false
}

func take[T error](e error, target *T) bool {
	if t, ok := e.(T); ok {
		*target = t
		return true
	}
	return false
}

// each goes over the errors from e on, each as a chain of its own.
func each(e error) iter.Seq[chain] {
	return func(yield func(chain) bool) {
		for c, ok := from(e), e != nil; ok; c, ok = c.rest() {
			if !yield(alone(c.error)) {
				return
			}
		}
	}
}

// guarded asks what may be another package's method: where that panics there
// is no answer.
func guarded[T any](ask func() T) (answer T, ok bool) {
	defer func() { _ = recover() }()
	return ask(), true
}
