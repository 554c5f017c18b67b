// Package sorting: to what sort a tree of nodes comes: see doc/16-plug.md, 'To sort a tree'.
package sorting

import (
	"strconv"

	"espalier/api"
	"espalier/shape"
)

// Sorter sorts trees of nodes. What it finds out of variables holds for all
// that it sorts. No functions are known to it.
type Sorter struct {
	shape.Solver
	findings []api.Errno
	plugin   func(kind string) bool
}

// New gives one; plugin tells of which kinds a Sugar node is not gone into.
func New(plugin func(kind string) bool) *Sorter {
	return &Sorter{Solver: shape.NewSolver(), plugin: plugin}
}

// Findings tells the numbers of what was found, as it came.
func (s *Sorter) Findings() []api.Errno { return s.findings }

func (s *Sorter) find(e api.Errno) { s.findings = append(s.findings, e) }

// unknown gives the sort of a node with a finding of its own.
func (s *Sorter) unknown(e api.Errno) shape.Shape {
	s.find(e)
	return s.Fresh()
}

// Sort sorts a tree. The cases have the document's order: the first that a
// node is counts.
func (s *Sorter) Sort(n api.Node, in *Scope) shape.Shape {
	n = core(n)
	if !evaluated(n) {
		return s.unknown(api.ErrLack)
	}
	switch x := n.(type) {
	case api.User:
		return s.user(x, in)
	case api.Framed:
		return s.framed(x, in)
	case api.Sorted:
		return s.sorted(x, in)
	case api.Binder:
		return s.binder(x, in)
	case api.Caller:
		return s.caller(x, in)
	case api.Sugar:
		return s.sugar(x, in)
	}
	return s.unknown(api.ErrLack)
}

func core(n api.Node) api.Node {
	for {
		w, ok := n.(api.Wrapped)
		if !ok {
			return n
		}
		n = w.Inner()
	}
}

// evaluated tells whether a node has an ability by which it is evaluated: its
// sorts alone say nothing of what nobody can evaluate.
func evaluated(n api.Node) bool {
	switch n.(type) {
	case api.Opaque:
		return false
	case api.Literal, api.Strict, api.Lazy, api.Framed, api.Binder, api.User, api.Caller, api.Sugar:
		return true
	}
	return false
}

func (s *Sorter) user(n api.User, in *Scope) shape.Shape {
	if x, ok := in.of(n.Uses()); ok {
		return x
	}
	return s.unknown(api.ErrName)
}

func (s *Sorter) framed(n api.Framed, in *Scope) shape.Shape {
	var numbers *Scope
	last := n.Len() - 1
	for i := range last {
		numbers = numbers.With(strconv.Itoa(i+1), s.Sort(n.Kid(i), in))
	}
	return s.Sort(n.Kid(last), numbers)
}

func (s *Sorter) sorted(n api.Sorted, in *Scope) shape.Shape {
	signs, renew := n.Signs(), s.renewing()
	bound := renew(signs.Bound)
	for i := range n.Len() {
		got := s.Sort(n.Kid(i), inner(n, i, bound, in))
		if want, ok := wanted(signs, i); ok && !s.Meet(renew(want), got) {
			s.find(api.ErrSort)
		}
	}
	return renew(signs.Out)
}

// renewing gives a function that gives sorts with new variables, one for each
// letter, however often it is asked.
func (s *Sorter) renewing() func(api.Sort) shape.Shape {
	letters := map[string]shape.Shape{}
	return func(old api.Sort) shape.Shape {
		x, e := shape.Of(old)
		if e != api.OK {
			return s.Fresh()
		}
		if !shape.Variable(x.Leaf) {
			return x
		}
		letter, ok := letters[x.Leaf]
		if !ok {
			letter = s.Fresh()
			letters[x.Leaf] = letter
		}
		return letter.Within(x.Lists)
	}
}

// inner gives the scope of a kid of a node that may bind a name in it.
func inner(n api.Node, kid int, bound shape.Shape, in *Scope) *Scope {
	if b, ok := n.(api.Binder); ok {
		if name, where := b.Binds(); where == kid {
			return in.With(name, bound)
		}
	}
	return in
}

// wanted tells which sort a signature asks of a kid.
func wanted(signs api.Signature, kid int) (api.Sort, bool) {
	last := len(signs.Ins) - 1
	if signs.Rest && kid > last {
		kid = last
	}
	if kid < 0 || kid > last {
		return api.Sort{}, false
	}
	return signs.Ins[kid], true
}

func (s *Sorter) binder(n api.Binder, in *Scope) shape.Shape {
	first := s.Sort(n.Kid(0), in)
	name, where := n.Binds()
	return s.Sort(n.Kid(where), in.With(name, first))
}

func (s *Sorter) caller(n api.Caller, in *Scope) shape.Shape {
	x := s.unknown(api.ErrName)
	for i := range n.Len() {
		s.Sort(n.Kid(i), in)
	}
	return x
}

// sugar sorts what a kit's node stands for: of a plugin's, which could grow
// with each one within another, only the sorts that it tells would count.
func (s *Sorter) sugar(n api.Sugar, in *Scope) shape.Shape {
	if s.plugin(n.Kind()) {
		return s.unknown(api.ErrLack)
	}
	return s.Sort(n.Spelt(), in)
}
