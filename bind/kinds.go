package bind

import (
	"slices"

	"espalier/api"
	"espalier/craft"
	"espalier/part"
	"espalier/sign"
)

// base is what the kinds of this kit have in common: all are quiet and sure.
type base struct {
	part.Base
	part.Total
}

type let struct {
	base
	part.Sorted
}

func (l *let) Binds() (string, int) { return l.Text(), 1 }

// where and star have no sorts of their own: what they are spelt with has them.
type where struct{ base }

func (w *where) Spelt() api.Node { return bound(w.Text(), w.Kid(1), w.Kid(0)) }

type star struct{ base }

// Spelt begins with the last kid, as each let stands around those behind it.
func (s *star) Spelt() api.Node {
	names, _ := sign.Names(s.Text())
	n := s.Kid(len(names))
	for i, name := range slices.Backward(names) {
		n = bound(name, s.Kid(i), n)
	}
	return n
}

// letSigns is the signature of bind.let, in the table and where a node is spelt with it.
const letSigns = "a, b > b; bound a"

// bound gives the let in whose second kid the name has the first one's value.
func bound(name string, value, in api.Node) api.Node {
	return newLet(part.New(api.Tree{Kind: "bind.let", Text: name}, value, in), letSigns)
}

func newLet(b part.Base, s part.Sorted) api.Node { return &let{base{Base: b}, s} }

func newWhere(b part.Base, _ part.Sorted) api.Node { return &where{base{Base: b}} }

func newStar(b part.Base, _ part.Sorted) api.Node { return &star{base{Base: b}} }

// kinds is the kit.
func kinds() []craft.Kind {
	const binds, spelt = "Binder Pure Total Sorted", "Pure Total Sugar"
	return []craft.Kind{
		{Name: "bind.let", Min: 2, Max: 2, Text: api.TextName, Has: binds, Signs: letSigns, Make: newLet},
		{Name: "bind.where", Min: 2, Max: 2, Text: api.TextName, Has: spelt, Make: newWhere},
		{Name: "bind.star", Min: 1, Max: -1, Text: api.TextNames, Has: spelt, Make: newStar},
	}
}
