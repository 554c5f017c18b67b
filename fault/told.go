package fault

import (
	"errors"
	"slices"

	"espalier/api"
)

// told is all that an error tells, by its abilities.
type told struct {
	words
	path []int
}

// words is what of it can be held against another by ==.
type words struct {
	code                     api.Errno
	located, raised, lacking bool
	fun, said, kind, ability string
}

func (t told) same(u told) bool {
	return t.words == u.words && slices.Equal(t.path, u.path)
}

// tell asks the first error along Unwrap that is Coded, and no other one.
func tell(e error) (told, bool) {
	var c api.Coded
	if !errors.As(from(e), &c) {
		return told{}, false
	}
	return guarded(func() told { return tellOf(c) })
}

func tellOf(c api.Coded) told {
	t := told{words: words{code: c.Code()}}
	var l api.Located
	if errors.As(alone(c), &l) {
		p := l.Where()
		t.located, t.fun, t.path = true, p.Fun, p.Path
	}
	var r api.Raised
	if errors.As(alone(c), &r) {
		t.raised, t.said = true, r.Said()
	}
	var k api.Lacking
	if errors.As(alone(c), &k) {
		t.lacking = true
		t.kind, t.ability = k.Lacks()
	}
	return t
}
