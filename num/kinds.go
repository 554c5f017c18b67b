package num

import (
	"espalier/api"
	"espalier/craft"
	"espalier/node"
	"espalier/part"
)

// base is what the kinds of this kit have in common.
type base struct {
	part.Base
	part.Pure
	part.Sorted
}

type strict struct{ base }

func (s *strict) Op() string { return s.Does() }

type sure struct{ strict }

func (*sure) Sure() bool { return true }

type sum struct{ base }

func (s *sum) Spelt() api.Node {
	n := s.Kid(0)
	for i := 1; i < s.Len(); i++ {
		n = both("num.add", n, s.Kid(i))
	}
	return n
}

// step goes one up or down, by the operation that it is spelt with.
type step struct {
	base
	by string
}

func (s *step) Spelt() api.Node {
	one, _ := node.Make(api.Tree{Kind: "base.int", Num: 1})
	return both(s.by, s.Kid(0), one.Node())
}

// number is the signature of the operations that make a number of two.
const number = "int, int > int"

func both(op string, a, b api.Node) api.Node {
	return newStrict(part.New(api.Tree{Kind: op}, a, b), number)
}

func newStrict(b part.Base, s part.Sorted) api.Node { return &strict{base{Base: b, Sorted: s}} }

func newSure(b part.Base, s part.Sorted) api.Node { return &sure{strict{base{Base: b, Sorted: s}}} }

func newSum(b part.Base, s part.Sorted) api.Node { return &sum{base{Base: b, Sorted: s}} }

func newInc(b part.Base, s part.Sorted) api.Node {
	return &step{base{Base: b, Sorted: s}, "num.add"}
}

func newDec(b part.Base, s part.Sorted) api.Node {
	return &step{base{Base: b, Sorted: s}, "num.sub"}
}

// kinds is the kit; an array, as it is made anew for each operation that is done.
func kinds() [15]craft.Kind {
	const (
		does, always, spelt = "Strict Pure Sorted", "Strict Pure Total Sorted", "Pure Sorted Sugar"
		one, test, all      = "int > int", "int, int > truth", "int .. > int"
	)
	return [...]craft.Kind{
		{Name: "num.add", Min: 2, Max: 2, Has: does, Signs: number, Make: newStrict, Does: add},
		{Name: "num.sub", Min: 2, Max: 2, Has: does, Signs: number, Make: newStrict, Does: sub},
		{Name: "num.mul", Min: 2, Max: 2, Has: does, Signs: number, Make: newStrict, Does: mul},
		{Name: "num.quo", Min: 2, Max: 2, Has: does, Signs: number, Make: newStrict, Does: quo},
		{Name: "num.mod", Min: 2, Max: 2, Has: does, Signs: number, Make: newStrict, Does: mod},
		{Name: "num.pow", Min: 2, Max: 2, Has: does, Signs: number, Make: newStrict, Does: pow},
		{Name: "num.neg", Min: 1, Max: 1, Has: does, Signs: one, Make: newStrict, Does: neg},
		{Name: "num.abs", Min: 1, Max: 1, Has: does, Signs: one, Make: newStrict, Does: abs},
		{Name: "num.min", Min: 2, Max: 2, Has: always, Signs: number, Make: newSure, Does: least},
		{Name: "num.max", Min: 2, Max: 2, Has: always, Signs: number, Make: newSure, Does: greatest},
		{Name: "num.less", Min: 2, Max: 2, Has: always, Signs: test, Make: newSure, Does: less},
		{Name: "num.most", Min: 2, Max: 2, Has: always, Signs: test, Make: newSure, Does: most},
		{Name: "num.sum", Min: 1, Max: -1, Has: spelt, Signs: all, Make: newSum},
		{Name: "num.inc", Min: 1, Max: 1, Has: spelt, Signs: one, Make: newInc},
		{Name: "num.dec", Min: 1, Max: 1, Has: spelt, Signs: one, Make: newDec},
	}
}
