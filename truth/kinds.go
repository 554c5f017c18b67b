package truth

import (
	"espalier/api"
	"espalier/craft"
	"espalier/part"
)

// base is what the kinds of this kit have in common: all are quiet and sure.
type base struct {
	part.Base
	part.Total
	part.Sorted
}

type strict struct{ base }

func (s *strict) Op() string { return s.Does() }

// lazy has no operation: whoever evaluates it asks for its way, and chooses among its kids by that.
type lazy struct{ base }

func (l *lazy) Way() string { return l.Does() }

func newStrict(b part.Base, s part.Sorted) api.Node { return &strict{base{Base: b, Sorted: s}} }

func newLazy(b part.Base, s part.Sorted) api.Node { return &lazy{base{Base: b, Sorted: s}} }

// kinds is the kit; an array, as it is made anew for each operation that is done.
func kinds() [5]craft.Kind {
	const (
		does, chooses = "Strict Pure Total Sorted", "Lazy Pure Total Sorted"
		both          = "truth, truth > truth"
	)
	return [...]craft.Kind{
		{Name: "truth.not", Min: 1, Max: 1, Has: does, Signs: "truth > truth", Make: newStrict, Does: not},
		{Name: "truth.same", Min: 2, Max: 2, Has: does, Signs: "a, a > truth", Make: newStrict, Does: same},
		{Name: "truth.if", Min: 3, Max: 3, Has: chooses, Signs: "truth, a, a > a", Make: newLazy},
		{Name: "truth.and", Min: 2, Max: 2, Has: chooses, Signs: both, Make: newLazy},
		{Name: "truth.or", Min: 2, Max: 2, Has: chooses, Signs: both, Make: newLazy},
	}
}
