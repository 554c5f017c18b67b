package sort

import (
	"espalier/api"
	"espalier/shape"
)

// of tells the sort of a value that may be; not, if a list's items have sorts
// that don't go together.
func of(s shape.Solver, p api.Plain) (shape.Shape, bool) {
	if p.Kind != api.PList {
		return shape.Shape{Leaf: nameOf(p.Kind)}, true
	}
	items := s.Fresh()
	for _, item := range p.List {
		if x, ok := of(s, item); !ok || !s.Meet(items, x) {
			return shape.Shape{}, false
		}
	}
	return s.Found(items).Within(1), true
}

func nameOf(kind int) string {
	switch kind {
	case api.PTruth:
		return "truth"
	case api.PInt:
		return "int"
	case api.PText:
		return "text"
	}
	return "unit"
}
