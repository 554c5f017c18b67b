package worth

import "espalier/api"

// scale is how much of a value's size is left. A list that holds itself over
// and over by sharing is gone over only until nothing is left.
type scale struct{ left int }

// holds tells whether a plain value may be, with what is left and with so many
// lists within one another.
func (s *scale) holds(p api.Plain, nest int) bool {
	if !wellFormed(p) {
		return false
	}
	s.left -= 1 + len(p.Text)
	if p.Kind != api.PList {
		return s.left >= 0
	}
	if nest == 0 || len(p.List) > s.left {
		return false
	}
	for _, item := range p.List {
		if !s.holds(item, nest-1) {
			return false
		}
	}
	return true
}

// wellFormed tells whether a plain value has one of the five kinds, and
// nothing in the fields that its kind gives no meaning. What is in its list is
// left aside.
func wellFormed(p api.Plain) bool {
	noNum, noText, noList := p.Num == 0, p.Text == "", len(p.List) == 0
	switch p.Kind {
	case api.PUnit:
		return noNum && noText && noList
	case api.PTruth:
		return (p.Num == 0 || p.Num == 1) && noText && noList
	case api.PInt:
		return noText && noList
	case api.PText:
		return noNum && noList
	case api.PList:
		return noNum && noText
	}
	return false
}

// value makes the value of a plain one that may be.
func value(p api.Plain) api.Value {
	switch p.Kind {
	case api.PTruth:
		return api.Truth(p.Num == 1)
	case api.PInt:
		return api.Int(p.Num)
	case api.PText:
		return api.Text(p.Text)
	case api.PList:
		list := make(api.List, len(p.List))
		for i, item := range p.List {
			list[i] = value(item)
		}
		return list
	}
	return api.Unit{}
}
