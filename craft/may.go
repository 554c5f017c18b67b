package craft

import "espalier/api"

// scale is how much of a value's size is left. A value is gone over only until
// nothing is left: by lists that are shared it may be far greater than its
// memory.
type scale struct{ left int }

// may tells whether a value that an operation made may be.
func may(v api.Value) bool {
	s := scale{left: api.MaxWorth}
	return s.holds(v, api.MaxNest)
}

// holds tells it with what is left, and with so many lists within one another.
func (s *scale) holds(v api.Value, nest int) bool {
	s.left--
	switch x := v.(type) {
	case api.Text:
		s.left -= len(x)
	case api.List:
		return nest > 0 && s.holdsAll(x, nest-1)
	}
	return s.left >= 0
}

func (s *scale) holdsAll(l api.List, nest int) bool {
	if len(l) > s.left {
		return false
	}
	for _, item := range l {
		if !s.holds(item, nest) {
			return false
		}
	}
	return true
}
