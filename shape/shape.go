// Package shape: sorts as they are brought together: so many lists, and what is in the innermost.
package shape

import (
	"strings"

	"espalier/api"
)

// List is the Name of a list's sort.
const List = "list"

// Shape is a sort: so many lists within one another, and the Name of what the
// innermost is of. A list is of one sort, so a sort is no more.
type Shape struct {
	Lists int
	Leaf  string
}

// Of goes no deeper than a sort may be: one that lies within itself by sharing
// would not end.
func Of(s api.Sort) (Shape, api.Errno) {
	lists := 0
	for s.Name == List && len(s.Of) == 1 && lists < api.MaxNest {
		s = s.Of[0]
		lists++
	}
	if len(s.Of) > 0 || !Ground(s.Name) && !Variable(s.Name) {
		return Shape{}, api.ErrSort
	}
	return Shape{lists, s.Name}, api.OK
}

// Ground tells whether a Name is a sort's that no variable is in.
func Ground(name string) bool {
	switch name {
	case "unit", "truth", "int", "text":
		return true
	}
	return false
}

// Variable tells whether a Name is a variable's.
func Variable(name string) bool {
	return len(name) == 1 && name[0] >= 'a' && name[0] <= 'z'
}

// closed tells whether a Name stands for nothing but itself.
func closed(name string) bool {
	return Ground(name) || len(name) == 1 && name[0] >= 'A' && name[0] <= 'Z'
}

// Fixed gives it with a variable that stands for nothing but itself: its
// letter as a capital, which is no Name of a sort that may be.
func (x Shape) Fixed() Shape {
	if Variable(x.Leaf) {
		x.Leaf = strings.ToUpper(x.Leaf)
	}
	return x
}

// Sort gives it in memory of its own.
func (x Shape) Sort() api.Sort {
	s := api.Sort{Name: x.Leaf}
	for range x.Lists {
		s = api.Sort{Name: List, Of: []api.Sort{s}}
	}
	return s
}

// Within lays so many more lists around it.
func (x Shape) Within(lists int) Shape {
	return Shape{x.Lists + lists, x.Leaf}
}
