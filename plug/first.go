package plug

import (
	"espalier/api"
	"espalier/fault"
)

// firstTree tells, with its place, what is amiss with the first node of a tree
// of which something is: a node ahead of its kids, the kids from the left.
func firstTree(t api.Tree, path []int, amiss func(api.Tree) api.Errno) error {
	if e := amiss(t); e != api.OK {
		return fault.At(e, api.Place{Path: path})
	}
	for i, kid := range t.Kids {
		if e := firstTree(kid, append(path, i), amiss); e != nil {
			return e
		}
	}
	return nil
}

// firstNode tells likewise, with its place and ErrLack, of the first node that
// has not what is asked.
func firstNode(n api.Node, path []int, has func(api.Node) bool) error {
	if !has(n) {
		return fault.At(api.ErrLack, api.Place{Path: path})
	}
	for i := range n.Len() {
		if e := firstNode(n.Kid(i), append(path, i), has); e != nil {
			return e
		}
	}
	return nil
}

func quietly(n api.Node) bool {
	if x, ok := n.(api.Pure); ok {
		return x.Quiet()
	}
	return false
}

// surely holds of a variable, too: elsewhere it may be nobody's, but those of a
// template that has been sorted are bound.
func surely(n api.Node) bool {
	switch x := n.(type) {
	case api.User:
		return true
	case api.Total:
		return x.Sure()
	}
	return false
}
