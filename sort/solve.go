package sort

import (
	"strconv"

	"espalier/api"
)

// standing gives two closures over one map, which nobody else reaches: stand
// lets a variable stand for a sort, but none for two; stands tells for which.
func standing() (stand func(name string, is shape) bool, stands func(name string) (shape, bool)) {
	known := map[string]shape{}
	stands = func(name string) (shape, bool) {
		is, ok := known[name]
		return is, ok
	}
	stand = func(name string, is shape) bool {
		if _, ok := known[name]; ok {
			return false
		}
		known[name] = is
		return true
	}
	return stand, stands
}

// solver brings sorts together: meet makes two the same, found tells what a
// sort has become by that, fresh gives a variable that no other sort has.
type solver struct {
	meet  func(a, b shape) bool
	found func(x shape) shape
	fresh func() shape
}

func newSolver() solver {
	stand, stands := standing()
	found := func(x shape) shape {
		for is, ok := stands(x.leaf); ok; is, ok = stands(x.leaf) {
			x = is.within(x.lists)
		}
		return x
	}
	meet := func(a, b shape) bool {
		a, b = bare(found(a), found(b))
		if open(b) && (!open(a) || a.leaf < b.leaf) {
			a, b = b, a
		}
		// Now a is to stand for b; not, if it has itself in it.
		return a == b || open(a) && a.leaf != b.leaf && stand(a.leaf, b)
	}
	last := 0
	fresh := func() shape {
		last++
		return shape{leaf: strconv.Itoa(last)}
	}
	return solver{meet: meet, found: found, fresh: fresh}
}

// bare takes away the lists that both have.
func bare(a, b shape) (shape, shape) {
	both := min(a.lists, b.lists)
	return a.within(-both), b.within(-both)
}

// open tells whether a sort is a variable, which may stand for another one.
func open(x shape) bool { return x.lists == 0 && !ground(x.leaf) }

// of tells the sort of a value that may be; not, if a list's items have sorts
// that don't go together.
func (s solver) of(p api.Plain) (shape, bool) {
	if p.Kind != api.PList {
		return shape{leaf: nameOf(p.Kind)}, true
	}
	items := s.fresh()
	for _, item := range p.List {
		if x, ok := s.of(item); !ok || !s.meet(items, x) {
			return shape{}, false
		}
	}
	return s.found(items).within(1), true
}

func nameOf(kind int) string {
	switch kind {
	case api.PTruth:
		return "truth"
	case api.PInt:
		return "int"
	case api.PText:
		return "text"
	}
	return "unit"
}
