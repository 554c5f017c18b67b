package sorting

import "espalier/shape"

// Scope is names with their sorts; nil is one without names. Scopes share what
// is around them, so that one within another costs no more than its name.
type Scope struct {
	name   string
	sort   shape.Shape
	around *Scope
}

// With gives the scope in which a name has that sort, too.
func (c *Scope) With(name string, sort shape.Shape) *Scope {
	return &Scope{name, sort, c}
}

// of tells the sort of the innermost of a name.
func (c *Scope) of(name string) (shape.Shape, bool) {
	for ; c != nil; c = c.around {
		if c.name == name {
			return c.sort, true
		}
	}
	return shape.Shape{}, false
}
