package sort

import "espalier/api"

const list = "list"

// shape is a sort that may be: so many lists within one another, and the Name
// of what the innermost is of. A list is of one sort, so a sort is no more.
type shape struct {
	lists int
	leaf  string
}

// shapeOf goes no deeper than a sort may be: one that lies within itself by
// sharing would not end.
func shapeOf(s api.Sort) (shape, api.Errno) {
	lists := 0
	for s.Name == list && len(s.Of) == 1 && lists < api.MaxNest {
		s = s.Of[0]
		lists++
	}
	if len(s.Of) > 0 || !ground(s.Name) && !variable(s.Name) {
		return shape{}, api.ErrSort
	}
	return shape{lists, s.Name}, api.OK
}

func shapesOf(a, b api.Sort) (x, y shape, e api.Errno) {
	if x, e = shapeOf(a); e == api.OK {
		y, e = shapeOf(b)
	}
	return x, y, e
}

// ground tells whether a Name stands for nothing but itself.
func ground(name string) bool {
	switch name {
	case "unit", "truth", "int", "text":
		return true
	}
	return false
}

func variable(name string) bool {
	return len(name) == 1 && name[0] >= 'a' && name[0] <= 'z'
}

// sort gives it in memory of its own.
func (x shape) sort() api.Sort {
	s := api.Sort{Name: x.leaf}
	for range x.lists {
		s = api.Sort{Name: list, Of: []api.Sort{s}}
	}
	return s
}

// within lays so many more lists around it.
func (x shape) within(lists int) shape {
	return shape{x.lists + lists, x.leaf}
}
