package guard

import (
	"espalier/api"
	"espalier/craft"
	"espalier/part"
)

// strict is neither quiet nor sure, as it may raise.
type strict struct {
	part.Base
	part.Sorted
}

func (s *strict) Op() string { return s.Does() }

// lazy has no operation: whoever evaluates it asks package caught which faults
// its way catches. It is quiet and sure: what is raised again is its kids' doing.
type lazy struct {
	part.Base
	part.Total
	part.Sorted
}

func (l *lazy) Way() string { return l.Does() }

// catch is Lazy and a Binder: whoever evaluates it asks for its way first, and
// binds the name only where a fault is caught.
type catch struct{ lazy }

func (c *catch) Binds() (string, int) { return c.Text(), 1 }

func newStrict(b part.Base, s part.Sorted) api.Node { return &strict{b, s} }

func newLazy(b part.Base, s part.Sorted) api.Node { return &lazy{Base: b, Sorted: s} }

func newCatch(b part.Base, s part.Sorted) api.Node { return &catch{lazy{Base: b, Sorted: s}} }

// kinds is the kit; an array, as it is made anew for each operation that is done.
func kinds() [4]craft.Kind {
	const does = "Strict Sorted"
	return [...]craft.Kind{
		{Name: "guard.raise", Min: 1, Max: 1, Has: does, Signs: "text > a", Make: newStrict, Does: raise},
		{Name: "guard.check", Min: 2, Max: 2, Has: does, Signs: "truth, text > unit", Make: newStrict, Does: check},
		{Name: "guard.try", Min: 2, Max: 2, Has: "Lazy Pure Total Sorted", Signs: "a, a > a", Make: newLazy},
		{Name: "guard.catch", Min: 2, Max: 2, Text: api.TextName, Has: "Lazy Binder Pure Total Sorted", Signs: "a, a > a; bound text", Make: newCatch},
	}
}

func raise(args []api.Value) (api.Value, api.Errno, string) {
	return nil, api.ErrRaise, string(args[0].(api.Text))
}

func check(args []api.Value) (api.Value, api.Errno, string) {
	if args[0].(api.Truth) {
		return api.Unit{}, api.OK, ""
	}
	return raise(args[1:])
}
