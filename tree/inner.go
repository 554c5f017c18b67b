package tree

import (
	"iter"
	"slices"

	"espalier/api"
)

// measure is how great what was gone over is.
type measure struct{ nodes, depth, bytes int }

// add goes over a tree, whose root lies so deep, until it is known to be too
// great: a tree that holds itself over and over by sharing would not end.
func (m *measure) add(t api.Tree, depth int) bool {
	m.nodes++
	m.depth = max(m.depth, depth)
	m.bytes += len(t.Text)
	if m.nodes+len(t.Kids) > api.MaxNodes || depth > api.MaxDepth || m.bytes > api.MaxLetters {
		return false
	}
	for _, kid := range t.Kids {
		if !m.add(kid, depth+1) {
			return false
		}
	}
	return true
}

// great tells whether a tree is beyond the limits. What is below it goes all
// the way down, and is called for trees within them alone.
func great(t api.Tree) bool {
	var m measure
	return !m.add(t, 1)
}

func same(a, b api.Tree) bool {
	return a.Kind == b.Kind && a.Num == b.Num && a.Text == b.Text && slices.EqualFunc(a.Kids, b.Kids, same)
}

func copied(t api.Tree) api.Tree {
	if len(t.Kids) == 0 {
		t.Kids = nil
		return t
	}
	kids := make([]api.Tree, len(t.Kids))
	for i, kid := range t.Kids {
		kids[i] = copied(kid)
	}
	t.Kids = kids
	return t
}

// follow goes along a path; nil, where there is no such kid.
func follow(t *api.Tree, path []int) *api.Tree {
	for _, i := range path {
		if i < 0 || i >= len(t.Kids) {
			return nil
		}
		t = &t.Kids[i]
	}
	return t
}

// nodes goes over the nodes of a tree, each ahead of its kids. The paths are
// lent: the next one is written over them.
func nodes(t api.Tree) iter.Seq2[[]int, api.Tree] {
	return func(yield func([]int, api.Tree) bool) {
		var visit func(path []int, t api.Tree) bool
		visit = func(path []int, t api.Tree) bool {
			if !yield(path, t) {
				return false
			}
			for i, kid := range t.Kids {
				if !visit(append(path, i), kid) {
					return false
				}
			}
			return true
		}
		visit(nil, t)
	}
}
