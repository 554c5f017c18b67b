package list

import (
	"espalier/api"
	"espalier/craft"
	"espalier/part"
)

// base is what the kinds of this kit have in common: all are quiet.
type base struct {
	part.Base
	part.Pure
	part.Sorted
}

type strict struct{ base }

func (s *strict) Op() string { return s.Does() }

type sure struct{ strict }

func (*sure) Sure() bool { return true }

// each is Lazy and a Binder: whoever evaluates it asks for its way first, and
// binds the name anew for each value of the list.
type each struct{ base }

func (e *each) Way() string { return e.Does() }

func (e *each) Binds() (string, int) { return e.Text(), 1 }

type sureEach struct{ each }

func (*sureEach) Sure() bool { return true }

func newStrict(b part.Base, s part.Sorted) api.Node { return &strict{base{Base: b, Sorted: s}} }

func newSure(b part.Base, s part.Sorted) api.Node { return &sure{strict{base{Base: b, Sorted: s}}} }

func newEach(b part.Base, s part.Sorted) api.Node { return &each{base{Base: b, Sorted: s}} }

func newSureEach(b part.Base, s part.Sorted) api.Node {
	return &sureEach{each{base{Base: b, Sorted: s}}}
}

// kinds is the kit; an array, as it is made anew for each operation that is done.
func kinds() [10]craft.Kind {
	const (
		does, always = "Strict Pure Sorted", "Strict Pure Total Sorted"
		maps, keeps  = "Lazy Binder Pure Sorted", "Lazy Binder Pure Total Sorted"
	)
	return [...]craft.Kind{
		{Name: "list.of", Max: -1, Has: does, Signs: "a .. > list a", Make: newStrict, Does: of, Joins: true},
		{Name: "list.size", Min: 1, Max: 1, Has: always, Signs: "list a > int", Make: newSure, Does: size},
		{Name: "list.at", Min: 2, Max: 2, Has: does, Signs: "list a, int > a", Make: newStrict, Does: at},
		{Name: "list.join", Min: 2, Max: 2, Has: does, Signs: "list a, list a > list a", Make: newStrict, Does: join},
		{Name: "list.add", Min: 2, Max: 2, Has: does, Signs: "list a, a > list a", Make: newStrict, Does: add},
		{Name: "list.cut", Min: 3, Max: 3, Has: does, Signs: "list a, int, int > list a", Make: newStrict, Does: cut},
		{Name: "list.turn", Min: 1, Max: 1, Has: always, Signs: "list a > list a", Make: newSure, Does: turn},
		{Name: "list.count", Min: 1, Max: 1, Has: does, Signs: "int > list int", Make: newStrict, Does: count},
		{Name: "list.map", Min: 2, Max: 2, Text: api.TextName, Has: maps, Signs: "list a, b > list b; bound a", Make: newEach},
		{Name: "list.keep", Min: 2, Max: 2, Text: api.TextName, Has: keeps, Signs: "list a, truth > list a; bound a", Make: newSureEach},
	}
}
