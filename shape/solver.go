package shape

import "strconv"

// Standing gives two closures over one map, which nobody else reaches: stand
// lets a variable stand for a sort, but none for two; stands tells for which.
func Standing() (stand func(name string, is Shape) bool, stands func(name string) (Shape, bool)) {
	known := map[string]Shape{}
	stands = func(name string) (Shape, bool) {
		is, ok := known[name]
		return is, ok
	}
	stand = func(name string, is Shape) bool {
		if _, ok := known[name]; ok {
			return false
		}
		known[name] = is
		return true
	}
	return stand, stands
}

// Solver brings sorts together: Meet makes two the same, and finds out nothing
// where they can't be; Found tells what a sort has become by that; Fresh gives
// a variable that no other sort has.
type Solver struct {
	Meet  func(a, b Shape) bool
	Found func(x Shape) Shape
	Fresh func() Shape
}

// NewSolver gives one that has found out nothing.
func NewSolver() Solver {
	stand, stands := Standing()
	found := func(x Shape) Shape {
		for is, ok := stands(x.Leaf); ok; is, ok = stands(x.Leaf) {
			x = is.Within(x.Lists)
		}
		return x
	}
	meet := func(a, b Shape) bool {
		a, b = bare(found(a), found(b))
		if open(b) && (!open(a) || a.Leaf < b.Leaf) {
			a, b = b, a
		}
		// Now a is to stand for b; not, if it has itself in it.
		return a == b || open(a) && a.Leaf != b.Leaf && stand(a.Leaf, b)
	}
	last := 0
	fresh := func() Shape {
		last++
		return Shape{Leaf: strconv.Itoa(last)}
	}
	return Solver{Meet: meet, Found: found, Fresh: fresh}
}

// bare takes away the lists that both have.
func bare(a, b Shape) (Shape, Shape) {
	both := min(a.Lists, b.Lists)
	return a.Within(-both), b.Within(-both)
}

// open tells whether a sort is a variable, which may stand for another one.
func open(x Shape) bool { return x.Lists == 0 && !closed(x.Leaf) }
